import copy
import random
import unittest

from apart.errors import ApartError, NoName, NoProgram, NoRow, NoTelling, NoText, NoValue
from apart.notes import read_telling
from apart.programs import check_program
from apart.texts import read_program, show_program
from telling_cases import GOOD_NAMES, NO_VALUES, empty, lists_of, some_program

OTHER_REFUSALS = (NoTelling, NoValue, NoRow, NoName, NoProgram)
NOTHING = ([], [])
# Each of these is one word of a row, or none.
NO_NAMES = tuple(word for word in NO_VALUES if "\n" not in word and " " not in word) + ("nil", "any")

# Each row of each form, and the program that is written so.
ALL_ROWS = """proc p x y
gives r
before x not y, stretch x nil, tree y
behind stretch r nil
set r x
set u nil
read u x second
read r u first
write x first y
write u second nil
new u nil x
free u
call q
call s x nil
take u p nil y
if x is y
end
if u not nil
set u nil
end
if nil is nil
else
free u
end
if x not x
free x
set r nil
else
set r x
free y
end
while u not nil with nothing
end
while x is u with x is u, tree y
read u u first
while nil not u with cell x any u
free u
end
if u is x
else
set u r
end
end
end
proc q
before nothing
behind nothing
end
proc s a b
before a is nil
behind b is b, stretch b a
free a
end"""
ALL_DEEDS = [
    ("set", "r", "x"), ("set", "u", "nil"), ("read", "u", "x", "second"), ("read", "r", "u", "first"),
    ("write", "x", "first", "y"), ("write", "u", "second", "nil"), ("new", "u", "nil", "x"), ("free", "u"),
    ("call", "", "q", ()), ("call", "", "s", ("x", "nil")), ("call", "u", "p", ("nil", "y")),
    ("if", ("is", "x", "y"), [], []),
    ("if", ("not", "u", "nil"), [("set", "u", "nil")], []),
    ("if", ("is", "nil", "nil"), [], [("free", "u")]),
    ("if", ("not", "x", "x"), [("free", "x"), ("set", "r", "nil")], [("set", "r", "x"), ("free", "y")]),
    ("while", ("not", "u", "nil"), NOTHING, []),
    ("while", ("is", "x", "u"), ([("is", "x", "u")], [("tree", "y")]), [
        ("read", "u", "u", "first"),
        ("while", ("not", "nil", "u"), ([], [("cell", "x", "any", "u")]), [("free", "u")]),
        ("if", ("is", "u", "x"), [], [("set", "u", "r")]),
    ]),
]
ALL_PROGRAM = [
    ("p", ("x", "y"), "r", read_telling("x not y, stretch x nil, tree y"), read_telling("stretch r nil"), ALL_DEEDS),
    ("q", (), "", NOTHING, NOTHING, []),
    ("s", ("a", "b"), "", read_telling("a is nil"), read_telling("b is b, stretch b a"), [("free", "a")]),
]

HEAD = ["proc p x", "before nothing", "behind nothing"]


def with_deeds(*rows):
    return "\n".join(HEAD + list(rows) + ["end"])


def with_row(text, number, row):
    """The text with another row in place of one."""
    rows = text.split("\n")
    return "\n".join(rows[:number] + [row] + rows[number + 1:])


class TextMixin:
    def assert_no_text(self, text, row):
        """Refused with NoText of this row, which is an ApartError and a ValueError and none of the others."""
        with self.assertRaises(NoText, msg=text) as caught:
            read_program(text)
        self.assertIs(type(caught.exception.row), int)
        self.assertEqual(caught.exception.row, row, text)
        self.assertIsInstance(caught.exception, ApartError)
        self.assertIsInstance(caught.exception, ValueError)
        self.assertNotIsInstance(caught.exception, OTHER_REFUSALS)

    def assert_no_program(self, text):
        with self.assertRaises(NoProgram, msg=text) as caught:
            read_program(text)
        self.assertNotIsInstance(caught.exception, (NoText, NoTelling))

    def kinds_of(self, thing):
        """The kinds of all in a thing, which == doesn't tell apart for truths."""
        inner = [self.kinds_of(each) for each in thing] if type(thing) in (tuple, list) else []
        return (type(thing), inner)

    def assert_read(self, text, program):
        told = read_program(text)
        self.assertEqual(told, program)
        self.assertEqual(self.kinds_of(told), self.kinds_of(program))


class ShownTests(TextMixin, unittest.TestCase):
    """Point 26: what is shown is read again."""

    def test_each_row(self):
        self.assertEqual(show_program(ALL_PROGRAM), ALL_ROWS)
        self.assert_read(ALL_ROWS, ALL_PROGRAM)
        check_program(ALL_PROGRAM)

    def test_small_programs(self):
        small = [("p", (), "", NOTHING, NOTHING, [])]
        self.assertEqual(show_program(small), "proc p\nbefore nothing\nbehind nothing\nend")
        self.assert_read("proc p\nbefore nothing\nbehind nothing\nend", small)
        small = [("p", ("a", "b", "c", "d"), "e", NOTHING, NOTHING, [])]
        self.assertEqual(show_program(small), "proc p a b c d\ngives e\nbefore nothing\nbehind nothing\nend")

    def test_an_else_only_where_there_are_second_deeds(self):
        for first, second, rows in (([], [], []), ([("free", "x")], [], ["free x"]),
                                    ([], [("free", "x")], ["else", "free x"]),
                                    ([("free", "x")], [("free", "x")], ["free x", "else", "free x"])):
            program = [("p", ("x",), "", NOTHING, NOTHING, [("if", ("is", "x", "nil"), first, second)])]
            text = with_deeds("if x is nil", *rows, "end")
            self.assertEqual(show_program(program), text)
            self.assert_read(text, program)

    def test_programs_by_chance(self):
        chance = random.Random(26)
        for count in range(400):
            program = some_program(chance)
            self.assert_read(show_program(program), program)

    def test_facts_and_parts_in_any_order_are_read(self):
        program = read_program("proc p x\nbefore tree x, x not nil\nbehind nothing\nend")
        self.assertEqual(program[0][3], ([("not", "x", "nil")], [("tree", "x")]))
        self.assertIn("before x not nil, tree x\n", show_program(program))

    def test_words_of_rows_are_names_too(self):
        text = ("proc end set if\ngives else\nbefore nothing\nbehind tree else\nset else set\nread while if first\n"
                "write second first first\nnew free set if\ntake else end else else\nif else is proc\nend\n"
                "end")
        # There are more than six names in it, but the rows are good.
        self.assert_no_program(text)
        text = ("proc end set if\ngives else\nbefore nothing\nbehind tree else\nset else set\nread while if first\n"
                "write second first set\ntake else end else else\nif else is second\nelse\nset else nil\nend\n"
                "end")
        self.assert_read(text, [("end", ("set", "if"), "else", NOTHING, ([], [("tree", "else")]), [
            ("set", "else", "set"), ("read", "while", "if", "first"), ("write", "second", "first", "set"),
            ("call", "else", "end", ("else", "else")), ("if", ("is", "else", "second"), [], [("set", "else", "nil")]),
        ])])


class NoTextTests(TextMixin, unittest.TestCase):
    """Point 26: texts that are refused, and at which row."""

    def test_the_text_without_signs(self):
        self.assert_no_text("", 0)
        self.assert_no_text("\n", 0)
        self.assert_no_text("\n" + ALL_ROWS, 0)
        self.assert_no_text(" ", 0)

    def test_a_text_that_ends_too_early(self):
        rows = ALL_ROWS.split("\n")
        ends = [number for number, row in enumerate(rows) if row == "end"
                and (number + 1 == len(rows) or rows[number + 1].startswith("proc "))]
        for count in range(1, len(rows)):
            text = "\n".join(rows[:count])
            if count - 1 not in ends:
                self.assert_no_text(text, count)
        # Here it ends behind a procedure, and the others that are called are lacking.
        self.assert_no_program("\n".join(rows[:ends[0] + 1]))

    def test_rows_behind_the_last_procedure(self):
        for text in (ALL_ROWS, with_deeds()):
            count = len(text.split("\n"))
            for row in ("", "end", "else", " ", "set u x", "gives r", "before nothing", "free x", "nothing", "x"):
                self.assert_no_text(text + "\n" + row, count)
                self.assert_no_text(text + "\n" + row + "\nproc z", count)
            self.assert_no_text(text + "\n\n", count)
            self.assert_no_text(text + "\nproc z", count + 1)

    def test_a_row_of_the_head_left_out(self):
        rows = ["proc p x", "gives r", "before nothing", "behind nothing", "free x", "end"]
        self.assertEqual(len(read_program("\n".join(rows))), 1)
        for number, row in ((0, 0), (2, 2), (3, 3), (5, 5)):
            self.assert_no_text("\n".join(rows[:number] + rows[number + 1:]), row)
        # Without gives there is no result, and without the deed none.
        self.assertEqual(read_program("\n".join(rows[:1] + rows[2:]))[0][2], "")
        self.assertEqual(read_program("\n".join(rows[:4] + rows[5:]))[0][5], [])

    def test_a_row_of_the_head_twice(self):
        rows = ["proc p x", "gives r", "before nothing", "behind nothing", "free x", "end"]
        for number in (0, 1, 2, 3, 5):
            self.assert_no_text("\n".join(rows[:number + 1] + rows[number:]), number + 1)

    def test_rows_of_the_head_in_another_place(self):
        rows = ["proc p x", "gives r", "before nothing", "behind nothing", "free x", "end"]
        for one in range(len(rows)):
            for other in range(one + 1, len(rows)):
                changed = list(rows)
                changed[one], changed[other] = rows[other], rows[one]
                # A before may stand there where no result is told, and an end without deeds: the next row is wrong.
                self.assert_no_text("\n".join(changed), one + 1 if (one, other) in ((1, 2), (4, 5)) else one)
        self.assert_no_text(with_deeds("gives r"), 3)
        self.assert_no_text(with_deeds("before nothing"), 3)
        self.assert_no_text(with_deeds("free x", "behind nothing"), 4)
        self.assert_no_text(with_deeds("if x is x", "proc q", "end"), 4)

    def test_unknown_words(self):
        for row in ("", "x", "let x y", "Set u x", "SET u x", "sets u x", "take", "call", "proc", "nothing", "then",
                    "#", "elseif x is x", "end if", "end x", "else x", "return", "with", "set", "read", "write", "new",
                    "free", "if", "while", "gives", "before", "behind", "is", "x is x", "tree x", "set\tu x"):
            self.assert_no_text(with_deeds(row), 3)
            self.assert_no_text(with_deeds("free x", "if x is x", "free x", row, "end"), 6)
            self.assert_no_text(row + "\n" + with_deeds(), 0)
        for row in ("procs p", "Proc p", "p", "gives r", "end", "before nothing"):
            self.assert_no_text(with_row(ALL_ROWS, 0, row), 0)

    def test_blanks(self):
        rows = ALL_ROWS.split("\n")
        for number, row in enumerate(rows):
            self.assert_no_text(with_row(ALL_ROWS, number, " " + row), number)
            self.assert_no_text(with_row(ALL_ROWS, number, row + " "), number)
            self.assert_no_text(with_row(ALL_ROWS, number, "\t" + row), number)
            for place in range(len(row)):
                if row[place] == " ":
                    self.assert_no_text(with_row(ALL_ROWS, number, row[:place] + " " + row[place:]), number)
                    self.assert_no_text(with_row(ALL_ROWS, number, row[:place] + "\t" + row[place + 1:]), number)

    def test_a_word_more_or_fewer(self):
        rows = ALL_ROWS.split("\n")
        for number, row in enumerate(rows):
            words = row.split(" ")
            if words[0] not in ("proc", "call", "take"):
                self.assert_no_text(with_row(ALL_ROWS, number, row + " x"), number)
                if words[0] not in ("before", "behind", "while") or len(words) == 2:
                    for place in range(len(words)):
                        fewer = " ".join(words[:place] + words[place + 1:])
                        self.assert_no_text(with_row(ALL_ROWS, number, fewer), number)
        for row in ("while x is x", "while x is x with", "while x is x nothing", "while x is with nothing",
                    "while x x with nothing", "while is x with nothing", "while x is x x with nothing",
                    "while x is x with nothing with nothing", "while x is x then nothing", "while x with nothing",
                    "while with nothing", "while nothing", "if x is x with nothing", "if x is", "if is x",
                    "call", "take", "take x", "take q", "call nil", "take u", "take nil p x", "take u nil"):
            self.assert_no_text(with_deeds(row, "end"), 3)
        self.assert_no_text("proc\nbefore nothing\nbehind nothing\nend", 0)

    def test_words_that_are_no_names(self):
        for word in NO_NAMES:
            for row in ("proc {}", "proc p {}", "proc p x {}", "proc p {} x"):
                self.assert_no_text(with_row(with_deeds(), 0, row.replace("{}", word)), 0)
            self.assert_no_text(f"proc p x\ngives {word}\nbefore nothing\nbehind nothing\nend", 1)
            for row in ("set {} x", "read {} x first", "read u {} first", "write {} first x", "new {} x x",
                        "free {}", "take {} p x", "call {}", "call {} x", "take u {} x"):
                self.assert_no_text(with_deeds(row.replace("{}", word)), 3)
            if word != "nil":
                for row in ("set u {}", "write x first {}", "new u {} x", "new u x {}", "if {} is x", "if x not {}",
                            "while {} is x with nothing", "while x is {} with nothing", "call p {}", "take u p {}"):
                    self.assert_no_text(with_deeds(row.replace("{}", word), "end"), 3)

    def test_names_in_each_place(self):
        for name in GOOD_NAMES:
            for row in ("set {} {}", "read {} {} first", "write {} second {}", "new {} {} {}", "free {}",
                        "if {} is {}\nend", "while {} not {} with tree {}\nend"):
                row = row.replace("{}", name)
                if name != "x":
                    self.assertEqual(show_program(read_program(with_deeds(row))), with_deeds(row))

    def test_fields_and_words_of_conditions(self):
        for word in ("", "third", "First", "firsts", "x", "nil", "any", "1"):
            self.assert_no_text(with_deeds(f"read u x {word}"), 3)
            self.assert_no_text(with_deeds(f"write x {word} u"), 3)
        for word in ("", "are", "Is", "isnt", "x", "nil", "any", "=="):
            self.assert_no_text(with_deeds(f"if x {word} x", "end"), 3)
            self.assert_no_text(with_deeds(f"while x {word} x with nothing", "end"), 3)

    def test_tellings_that_are_none(self):
        for text in ("", "x", "Nothing", "nothing, nothing", "nothing, tree x", "tree", "tree x,", "tree x,tree x",
                     "tree x , tree x", "tree x,  tree x", "cell x y", "x is", "is x x", "stretch x", "tree any",
                     "x is any", "tree then", "tree X", "x is x; tree x", ", ".join(["x is x"] * 9),
                     ", ".join(["tree x"] * 7), "cell a b c, cell d e f, cell g h i"):
            self.assert_no_text(f"proc p x\nbefore {text}\nbehind nothing\nend", 1)
            self.assert_no_text(f"proc p x\ngives r\nbefore {text}\nbehind nothing\nend", 2)
            self.assert_no_text(f"proc p x\nbefore nothing\nbehind {text}\nend", 2)
            self.assert_no_text(with_deeds(f"while x is x with {text}", "end"), 3)

    def test_else(self):
        self.assert_no_text(with_deeds("else"), 3)
        self.assert_no_text(with_deeds("free x", "else", "free x"), 4)
        self.assert_no_text(with_deeds("if x is x", "free x", "else", "end"), 6)
        self.assert_no_text(with_deeds("if x is x", "else", "end"), 5)
        self.assert_no_text(with_deeds("if x is x", "else", "else", "free x", "end"), 5)
        self.assert_no_text(with_deeds("if x is x", "else", "free x", "else", "free x", "end"), 6)
        self.assert_no_text(with_deeds("while x is x with nothing", "else", "free x", "end"), 4)
        self.assert_no_text(with_deeds("if x is x", "while x is x with nothing", "else", "end", "end"), 5)
        self.assert_no_text(with_deeds("if x is x", "end", "else", "free x", "end"), 5)
        # An if or a while within is a deed behind an else, but only when it is there.
        inner = ["if x is x", "else", "if x is x", "else", "if x is x", "end", "end", "end"]
        self.assertEqual(show_program(read_program(with_deeds(*inner))), with_deeds(*inner))
        self.assert_no_text(with_deeds("if x is x", "else", "if x is x", "else", "end", "end"), 7)

    def test_end(self):
        self.assert_no_text(with_deeds("end"), 4)
        self.assert_no_text(with_deeds("free x", "end", "free x"), 5)
        self.assert_no_text(with_deeds("if x is x", "end", "end"), 6)
        self.assert_no_text("end", 0)
        self.assert_no_text("proc p\nend", 1)
        self.assert_no_text("proc p\nbefore nothing\nend", 2)
        self.assert_no_text(with_deeds("if x is x"), 5)
        self.assert_no_text(with_deeds("while x is x with nothing", "if x is x", "end"), 7)

    def test_the_first_wrong_row_is_told(self):
        self.assert_no_text(with_deeds("free x", "fre x", "fre x"), 4)
        self.assert_no_text("proc p\nproc p\nproc", 1)
        self.assert_no_text(with_deeds("if x is x", "set x", "else", "end"), 4)
        # NoText goes ahead of NoProgram, wherever the row stands.
        self.assert_no_text(with_deeds("set x nil", "call z", "free"), 5)
        self.assert_no_text("proc p x x\nbefore tree z\nbehind nothing", 3)


class NoProgramTests(TextMixin, unittest.TestCase):
    """Point 26: what the rows allow and 24 refuses."""

    def test_what_the_rows_do_not_look_at(self):
        for text in (
                "proc p a b c d e\nbefore nothing\nbehind nothing\nend",
                "proc p x x\nbefore nothing\nbehind nothing\nend",
                "proc p x\ngives x\nbefore nothing\nbehind nothing\nend",
                "proc p x\nbefore tree y\nbehind nothing\nend",
                "proc p x\nbefore nothing\nbehind tree y\nend",
                with_deeds() + "\n" + with_deeds(),
                "\n".join(with_row(with_deeds(), 0, f"proc p{number}") for number in range(5)),
                with_deeds("set x nil"), with_deeds("read x x first"), with_deeds("new x nil nil"),
                with_deeds("take x p x"), with_deeds("take u p x"), with_deeds("call q"), with_deeds("call p"),
                with_deeds("call p x x"), with_deeds("call p x x x x x x x"),
                with_deeds("new a b c", "new d e f"),
                with_deeds(*["free x"] * 31),
                with_deeds(*["if x is x"] * 5 + ["free x"] + ["end"] * 5),
        ):
            self.assert_no_program(text)
        self.assertEqual(len(read_program(with_deeds(*["free x"] * 30))[0][5]), 30)
        read_program(with_deeds(*["if x is x"] * 4 + ["free x"] + ["end"] * 4))

    def test_many_rows_within_one_another(self):
        # The rows are good however deep they stand.
        self.assert_no_program(with_deeds(*["if x is x"] * 100 + ["end"] * 100))
        self.assert_no_text(with_deeds(*["if x is x"] * 100 + ["end"] * 99), 203)


class OwnTests(TextMixin, unittest.TestCase):
    """Point 2."""

    def test_nothing_that_is_handed_in_is_changed(self):
        handed = copy.deepcopy(ALL_PROGRAM)
        show_program(handed)
        self.assertEqual(handed, ALL_PROGRAM)

    def test_each_answer_is_the_askers_own(self):
        told = read_program(ALL_ROWS)
        found = lists_of(told)
        self.assertEqual(len({id(each) for each in found}), len(found))
        empty(told)
        self.assertEqual(read_program(ALL_ROWS), ALL_PROGRAM)


if __name__ == "__main__":
    unittest.main()
