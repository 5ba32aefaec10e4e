import unittest

from apart.desk import Desk
from apart.errors import ApartError, NoName, NoProgram, NoRow, NoTelling, NoText, NoValue
from apart.look import looked
from apart.texts import read_program

REFUSALS = (NoTelling, NoValue, NoProgram, NoRow, NoName, NoText)

TEXT = """proc push x y
gives r
before stretch y nil
behind cell r x y, stretch y nil
new r x y
end
proc still
before nothing
behind nothing
end
proc falls x
before nothing
behind nothing
set u x
free u
end
proc round
before nothing
behind nothing
while nil is nil with nothing
end
end"""

OTHER_TEXT = """proc run a b c d
gives look
before nothing
behind nothing
new look a b
new look c look
new look d look
end
proc lost x
before tree x
behind tree x
set u x
set u nil
if x is nil
while u not x with tree x
set u x
set u u
if u is nil
else
read v u first
end
while u is nil with tree x
end
end
end
end
proc calls x
before nothing
behind nothing
call lost x
end
proc empty x
gives r
before nothing
behind r is nil
end"""


class DeskMixin:
    def assert_refused(self, kind, asked, *handed):
        """Refused with this kind, which is an ApartError and a ValueError and none of the others."""
        with self.assertRaises(kind, msg=handed) as caught:
            asked(*handed)
        self.assertIsInstance(caught.exception, ApartError)
        self.assertIsInstance(caught.exception, ValueError)
        self.assertEqual([each for each in REFUSALS if isinstance(caught.exception, each)], [kind])

    def assert_said(self, row, answer, text=TEXT):
        desk = Desk(text)
        for count in range(2):
            told = desk.say(row)
            self.assertEqual(told, answer, row)
            self.assertIs(type(told), str)

    def assert_no_row(self, *rows):
        for row in rows:
            self.assert_refused(NoRow, Desk(TEXT).say, row)


class TextTests(DeskMixin, unittest.TestCase):
    """Point 36: the desk's text is refused as 26 tells."""

    def test_texts(self):
        for text, row in (("", 0), (TEXT + "\n", 22), (TEXT.replace("free u", "free"), 14), ("proc p\nend", 1),
                          ("proc p\nbefore nothing", 2)):
            self.assert_refused(NoText, Desk, text)
            with self.assertRaises(NoText) as caught:
                Desk(text)
            self.assertEqual(caught.exception.row, row)
        self.assert_refused(NoProgram, Desk, TEXT.replace("proc still", "proc push"))
        self.assert_refused(NoProgram, Desk, TEXT.replace("set u x", "set x u"))


class LookTests(DeskMixin, unittest.TestCase):
    """Point 36: look."""

    def test_answers(self):
        self.assert_said("look", "push good, still good, falls bad 0 fall, round good")
        self.assert_said("look", "still good", "proc still\nbefore nothing\nbehind nothing\nend")

    def test_paths_and_words(self):
        head = "proc p x\nbefore {}\nbehind {}\n"
        for text, answer in (
                (head.format("tree x", "nothing") + "end", "p bad 0 unfit"),
                (head.format("nothing", "nothing") + "while x is x with nothing\nfree x\nend\nend", "p bad 0.0.0 fall"),
                (head.format("nothing", "tree x") + "while x is nil with nothing\nend\nend", "p bad 1 unfit"),
                (head.format("nothing", "nothing") + "set u x\nif x is nil\nelse\nset u x\n"
                 "while u not nil with nothing\nset u nil\nend\nread u x first\nend\nend", "p bad 1.1.2 fall"),
                (head.format("nothing", "nothing") + "set u x\n" * 11 + "while u is u with nothing\nfree u\nend\nend",
                 "p bad 11.0.0 fall"),
                (head.format("nothing", "nothing") + "call q x\nend\nproc q a\nbefore tree a\nbehind nothing\nend",
                 "p bad 0 call, q bad 0 unfit"),
        ):
            self.assert_said("look", answer, text)

    def test_as_looked_tells(self):
        program = read_program(OTHER_TEXT)
        answers = []
        for procedure in program:
            answer = looked(program, procedure[0])
            if answer[0] == "good":
                answers.append(procedure[0] + " good")
            else:
                path = ".".join(str(number) for number in answer[1])
                answers.append(f"{procedure[0]} bad {path} {answer[2]}")
        self.assert_said("look", ", ".join(answers), OTHER_TEXT)
        self.assertEqual([answer.split(" ")[1] for answer in answers], ["bad", "good", "bad", "good"])

    def test_rows(self):
        self.assert_no_row("look x", "look look", "look push", " look", "look ", "look  ", "Look", "LOOK", "looks",
                           "look\n", "look 0", "loo", "look,")


class RunTests(DeskMixin, unittest.TestCase):
    """Point 36: run."""

    def test_answers(self):
        self.assert_said("run push 1 5 0", "end 1")
        self.assert_said("run push 0 5 0", "on")
        self.assert_said("run push 5000 5 0", "end 1")
        self.assert_said("run still 0", "end")
        self.assert_said("run still 7", "end")
        self.assert_said("run falls 0 3", "on")
        self.assert_said("run falls 1 3", "on")
        self.assert_said("run falls 2 3", "fall")
        self.assert_said("run falls 5000 0", "fall")
        self.assert_said("run round 5000", "on")
        self.assert_said("run round 0", "on")

    def test_results(self):
        self.assert_said("run run 2 1 2 3 4", "on", OTHER_TEXT)
        self.assert_said("run run 3 1 2 3 4", "end 3", OTHER_TEXT)
        self.assert_said("run empty 0 9", "end 0", OTHER_TEXT)
        text = "proc p x\ngives r\nbefore nothing\nbehind nothing\nset r x\nend"
        for number in (0, 1, 10, 907, 10 ** 59, 10 ** 60 - 1):
            self.assert_said(f"run p 1 {number}", f"end {number}", text)

    def test_params_stand_in_their_order(self):
        text = "proc p d c b a\ngives r\nbefore nothing\nbehind nothing\nset r {}\nend"
        for name, number in (("d", 11), ("c", 22), ("b", 33), ("a", 44)):
            self.assert_said("run p 9 11 22 33 44", f"end {number}", text.format(name))

    def test_other_names_are_0_and_the_heap_is_without_cells(self):
        text = "proc p x\ngives r\nbefore nothing\nbehind nothing\nif u is nil\nset r x\nend\n{}\nend"
        self.assert_said("run p 9 8", "end 8", text.format("if r is x\nend"))
        self.assert_said("run p 9 8", "fall", text.format("free x"))
        self.assert_said("run p 9 8", "end 1", text.format("new r nil nil"))

    def test_what_stands_before_is_not_looked_at(self):
        text = "proc p x\ngives r\nbefore x is nil, cell x any any\nbehind nothing\nset r x\nend"
        self.assert_said("run p 9 8", "end 8", text)

    def test_calls(self):
        text = ("proc p x\ngives r\nbefore nothing\nbehind nothing\ntake r q x x\nend\n"
                "proc q a b\ngives c\nbefore nothing\nbehind nothing\nnew d a b\nread c d second\nend")
        self.assert_said("run p 2 6", "on", text)
        self.assert_said("run p 3 6", "end 6", text)
        self.assert_said("run q 3 5 6", "end 6", text)

    def test_each_run_is_a_new_one(self):
        desk = Desk(TEXT)
        for count in range(3):
            self.assertEqual(desk.say("run push 1 5 0"), "end 1")

    def test_steps(self):
        for steps in ("0", "1", "9", "10", "4999", "5000"):
            self.assert_said(f"run round {steps}", "on")
        for steps in ("5001", "5010", "6000", "10000", "9" * 60, "9" * 61, "00", "01", "05000", "-1", "-0", "+1", "1.0",
                      "x", "", "1_0", "0x1", "1e2", "one", "1,", "nil", " 1"):
            self.assert_no_row(f"run round {steps}")

    def test_numbers(self):
        for number in ("0", "7", "10", "9" * 60, "1" + "0" * 59):
            self.assert_said(f"run push 1 {number} {number}", "end 1")
        for number in ("9" * 61, "1" + "0" * 60, "00", "07", "-1", "-0", "+1", "1.0", "x", "1_0", "0x1", "1e2", "nil",
                       "1,", "\n", "1\n", "\n1", "", "'1'", "0" * 60):
            self.assert_no_row(f"run push 1 {number} 0", f"run push 1 0 {number}")

    def test_another_number_of_numbers(self):
        self.assert_no_row("run push 1", "run push 1 5", "run push 1 5 6 7", "run still 1 0", "run falls 1",
                           "run falls 1 2 3", "run round 0 0")

    def test_names(self):
        for name in ("pushs", "x", "Push", "nil", "p", "push,", "0", "run", "look", "-", "a-very-long-word", "push\n"):
            for row in (f"run {name} 0", f"run {name} 1 5 0", f"run {name} 5000 1 2 3 4 5 6"):
                self.assert_refused(NoName, Desk(TEXT).say, row)
        # What is no row at all goes first.
        self.assert_no_row("run pushs 5001", "run pushs x", "run pushs 1 x", "run pushs 01", "run pushs",
                           "run pushs 1 -1", "run  1", "run  1 5 0")

    def test_rows(self):
        self.assert_no_row("run", "run ", "run push", "run push ", "run push 1 5  0", "run  push 1 5 0",
                           " run push 1 5 0", "run push 1 5 0 ", "run push  1 5 0", "Run push 1 5 0",
                           "runs push 1 5 0", "run\tpush 1 5 0",
                           "run 1 push 5 0", "\nrun push 1 5 0")


class FollowsTests(DeskMixin, unittest.TestCase):
    """Point 36: follows."""

    def test_answers(self):
        for one, other, answer in (
                ("nothing", "nothing", "yes"), ("tree x", "tree x", "yes"), ("tree x", "nothing", "no"),
                ("cell x any y, stretch y nil", "stretch x nil", "yes"),
                ("stretch x y, stretch y z", "stretch x z", "no"),
                ("x is y", "y is x", "yes"), ("nothing", "x is y", "no"), ("x not x", "tree then1", "yes"),
                ("stretch x y, stretch y z, cell z any any", "cell z any any, stretch x z", "yes"),
                ("tree x, x not nil, stretch x y", "x is y, tree x", "yes"),
                ("cell x y z, tree y, tree z", "tree x", "yes"),
                ("x not y, y not z, z not u, u not v, v not w, w not x, cell x any y, cell y any z, cell z any u, "
                 "cell u any v, stretch v nil", "stretch x nil", "yes"),
        ):
            self.assert_said(f"follows {one} then {other}", answer)

    def test_rows_without_then(self):
        self.assert_no_row("follows", "follows ", "follows tree x", "follows tree x, tree x", "follows nothing",
                           "follows tree x Then tree x", "follows tree x thens tree x", "follows tree xthen tree x",
                           "follows tree x then, tree x", "follows\tthen", "followsthen",
                           "follows tree x\nthen\ntree x")

    def test_other_rows(self):
        self.assert_no_row("Follows tree x then tree x", "follow tree x then tree x", " follows tree x then tree x",
                           "then", "tree x then tree x", "then follows", "", " ", "  ", "x", "nothing", "follows,then",
                           "\n", "exit", "help", "run then 1 2 3 x", "look then", "show", "proc p")

    def test_one_of_them_without_signs(self):
        for row in ("follows then tree x", "follows tree x then", "follows then", "follows  then tree x",
                    "follows tree x then ", "follows  then ", "follows then ", "follows   then tree x"):
            self.assert_refused(NoTelling, Desk(TEXT).say, row)

    def test_blanks(self):
        for row in ("follows  tree x then tree x", "follows tree x  then tree x", "follows tree x then  tree x",
                    "follows tree x then tree x ", "follows tree  x then tree x", "follows tree x then tree  x",
                    "follows tree x,tree y then nothing", "follows nothing then tree x,  tree y"):
            self.assert_refused(NoTelling, Desk(TEXT).say, row)

    def test_another_then(self):
        for row in ("follows tree x then tree x then tree x", "follows tree x then then tree x", "follows then then",
                    "follows tree x then tree then", "follows tree then then tree x", "follows then tree x then tree x",
                    "follows tree x then tree x then"):
            self.assert_refused(NoTelling, Desk(TEXT).say, row)

    def test_what_is_no_telling(self):
        for text in ("x", "tree", "tree x y", "x is", "x is any", "tree any", "Tree x", "cell x y", "nothing, tree x",
                     "tree x,", ", tree x", ", ".join(["x is x"] * 9), ", ".join(["tree x"] * 7), "tree x\n",
                     "\ntree x", "cell a b c, cell d e f, cell g h i", "follows", "look", "tree X", "stretch x",
                     "is x y"):
            self.assert_refused(NoTelling, Desk(TEXT).say, f"follows {text} then nothing")
            self.assert_refused(NoTelling, Desk(TEXT).say, f"follows nothing then {text}")


if __name__ == "__main__":
    unittest.main()
