import copy
import itertools
import random
import unittest

from apart.covers import cover, fits
from apart.errors import ApartError
from apart.known import clashes
from apart.look import looked, told_at
from apart.machine import Machine
from apart.notes import read_telling, show_telling
from apart.paths import begins, deed_at
from apart.programs import check_program, names_in
from apart.tellings import renamed
from apart.texts import read_program, show_program
from telling_cases import empty, lists_of, some_state, some_telling

# Procedures without calls that are right; each begins with its name.
RIGHT = (
    # A list is gone along.
    """proc last x
gives r
before x not nil, stretch x nil
behind stretch x r, cell r any nil
set r x
read u r second
while u not nil with stretch x r, cell r any u, stretch u nil
set r u
read u r second
end
end""",
    """proc find x y
gives r
before stretch x nil
behind stretch x r, stretch r nil
set r x
while u is nil with stretch x r, stretch r nil
if r is nil
set u x
new t nil nil
set u t
free t
else
read v r first
if v is y
set u r
else
read r r second
end
end
end
end""",
    # A list is made longer.
    """proc push x y
gives r
before stretch y nil
behind cell r x y, stretch y nil
new r x y
end""",
    """proc longer x y
before cell y any any, stretch x y
behind stretch x nil
new u nil nil
write y second u
end""",
    """proc insert x y
before x not nil, stretch x nil, cell y any any
behind x not nil, stretch x nil
read u x second
write x second y
write y second u
end""",
    """proc fill x
gives r
before nothing
behind stretch r nil
while u not x with stretch r nil
new r u r
read u r first
end
new r x r
new r x r
end""",
    # A list is turned about.
    """proc turn x
gives r
before stretch x nil
behind stretch r nil
set u x
while u not nil with stretch u nil, stretch r nil
read t u second
write u second r
set r u
set u t
end
end""",
    # Lists are let go.
    """proc letgo x
before stretch x nil
behind nothing
set u x
while u not nil with stretch u nil
set t u
read u u second
free t
end
end""",
    """proc cut x y
before stretch x y
behind nothing
set u x
while u not y with stretch u y
read t u second
free u
set u t
end
end""",
    """proc drop x
gives r
before stretch x nil, x not nil
behind stretch r nil
read r x second
free x
end""",
    # Two lists are joined, and one is parted.
    """proc join x y
gives r
before stretch x nil, stretch y nil
behind stretch r nil
if x is nil
set r y
else
set r x
set u x
read v u second
while v not nil with stretch r u, cell u any v, stretch v nil, stretch y nil
set u v
read v u second
end
write u second y
end
end""",
    """proc part x y
gives r
before x not nil, stretch x nil
behind stretch x nil, stretch r nil
set u x
read v u second
set w x
while w not nil with stretch x u, cell u any v, stretch v nil
if v is nil
set w nil
else
read w v first
if w is y
set w nil
else
set u v
read v u second
end
end
end
write u second nil
set r v
end""",
    # Stretches from name to name.
    """proc along x y z
before stretch x y, stretch y z, cell z any any
behind stretch x z, cell z any any
end""",
    """proc ring x
before cell x any x
behind cell x any x
new u nil x
write x second u
read t x second
read t t second
if t is x
free u
write x second x
end
end""",
    # Trees.
    """proc mirror x
before tree x
behind tree x
if x not nil
read a x first
read b x second
write x first b
write x second a
end
end""",
    """proc node x y
gives r
before tree x, tree y
behind tree r
new r x y
end""",
    """proc turnleft x
gives r
before x not nil, tree x
behind r not nil, tree r
read b x second
if b is nil
set r x
else
read c b first
write x second c
write b first x
set r b
end
end""",
    # Cells are exchanged.
    """proc values x y
before cell x any any, cell y any any
behind cell x any any, cell y any any
read a x first
read b y first
write x first b
write y first a
end""",
    """proc fields x y a b
before cell x a b, cell y b a
behind cell x b a, cell y a b
write x first b
write y first a
write x second a
write y second b
end""",
)

# Procedures that call one another, all of which can be let by.
CALLING = (
    """proc letgo x
before tree x
behind nothing
if x not nil
read l x first
read r x second
call letgo l
call letgo r
free x
end
end""",
    """proc copy x
gives r
before stretch x nil
behind stretch x nil, stretch r nil
if x not nil
read u x second
take r copy u
read v x first
new r v r
end
end""",
    """proc copy x
gives r
before tree x
behind tree x, tree r
if x not nil
read a x first
read b x second
take a copy a
take b copy b
new r a b
end
end""",
    """proc join x y
gives r
before stretch x nil, stretch y nil
behind stretch r nil
if x is nil
set r y
else
read u x second
take u join u y
write x second u
set r x
end
end""",
    """proc none x
before stretch x nil
behind nothing
if x not nil
call some x
end
end
proc some x
before x not nil, stretch x nil
behind nothing
read u x second
free x
call none u
end""",
    """proc one x
gives r
before cell x any any
behind cell x any nil
write x second nil
end
proc two y z
gives w
before y not nil, y not z, stretch y z, stretch z nil
behind cell y any nil, stretch w nil
read w y second
take v one y
set u w
while u not z with cell y any nil, stretch w u, stretch u z, stretch z nil
read u u second
end
end""",
    """proc push x y
gives r
before stretch x nil
behind stretch r nil, r not nil
new r y x
end
proc two x y
gives r
before stretch x nil
behind stretch r nil, r not nil
take r push x y
take r push r y
end
proc more x y
gives r
before stretch x nil
behind stretch r nil
set r x
while y is y with stretch r nil
take r two r y
end
end""",
)


def end_told(procedure, made):
    """What is told where a machine stands (30), None within a section."""
    if made.word() == "fall":
        return None
    if made.where() is None:
        return procedure[4]
    deed = deed_at(procedure[5], made.where()[1])
    return deed[2] if deed[0] == "while" else None


def failure(program, procedure, path, values, heap):
    """How a state fails in a section (31), or `call` where it comes to one, or None."""
    made = Machine(program, procedure[0], path, values, heap)
    told = end_told(procedure, made)
    while told is None and made.word() != "fall":
        if deed_at(procedure[5], made.where()[1])[0] == "call":
            return "call"
        made.step()
        told = end_told(procedure, made)
    if told is None:
        return "fall"
    return None if fits(made.held(), made.heap(), told) else "unfit"


def with_procedure(body, before="nothing", behind="nothing", params="x y", result="r"):
    rows = ["proc p " + params if params else "proc p"] + (["gives " + result] if result else [])
    return "\n".join(rows + ["before " + before, "behind " + behind] + body.split("; ") * (body != "") + ["end"])


def in_loop(telling, body, before="nothing"):
    """Deeds in a loop, at which names that its telling doesn't name may have any values."""
    return with_procedure(f"while nil is nil with {telling}; {body}; end", before)


def spoilt(text):
    """Each text that differs from this one in one word, one row more or fewer, or one fact or part fewer."""
    rows = text.split("\n")
    words = {"nil", "any", "first", "second"} | {word for row in rows for word in row.replace(",", "").split(" ")}
    found = []
    for number, row in enumerate(rows):
        pieces = row.replace(",", " ,").split(" ")
        others = [pieces[:place] + [word] + pieces[place + 1:] for place in range(1, len(pieces)) for word in words]
        changed = {" ".join(other).replace(" ,", ",") for other in others}
        head, blank, telling = row.partition(" with " if row.startswith("while") else " ")
        listed = telling.split(", ")
        if len(listed) > 1:
            changed |= {head + blank + ", ".join(listed[:k] + listed[k + 1:]) for k in range(len(listed))}
        found += [rows[:number] + [other] + rows[number + 1:] for other in sorted(changed - {row})]
        found += [rows[:number] + rows[number + 1:], rows[:number + 1] + rows[number:]]
    return ["\n".join(each) for each in found]


def programs_of(texts):
    """Those of the texts that are a program's."""
    found = []
    for text in texts:
        try:
            found.append(read_program(text))
        except ApartError:
            pass
    return found


class LookMixin:
    def bad_flaw(self, program, procedure, answer):
        """Why this doesn't show that a procedure is to be refused (32, 33), or None."""
        if type(answer) is not tuple or len(answer) != 5 or answer[0] != "bad":
            return "no answer"
        path, word, values, heap = answer[1:]
        if path not in begins(procedure[5]):
            return "no path of a section's begin"
        if word == "call":
            return None if values is None and heap is None else "a state with call"
        if type(values) is not dict or type(heap) is not dict or sorted(values) != names_in(procedure):
            return "no values of all names"
        numbers = list(values.values()) + [number for cell in heap.values() for number in cell]
        if any(type(number) is not int or not 0 <= number < 10 ** 59 for number in numbers + list(heap)) or 0 in heap:
            return "no numbers"
        if any(type(cell) is not tuple or len(cell) != 2 for cell in heap.values()):
            return "no cells"
        telling, zeros = told_at(program, procedure[0], path)
        if not fits(values, heap, telling) or any(values[name] != 0 for name in zeros):
            return "a state that doesn't fit at the begin"
        told = failure(program, procedure, path, values, heap)
        return None if told == word and word in ("fall", "unfit") else f"another failure: {told}"

    def assert_sound(self, program, name):
        """The answer is of its form, and a state that is told fails; its word is told."""
        procedure = [each for each in program if each[0] == name][0]
        answer = looked(program, name)
        if answer == ("good",):
            return "good"
        self.assertIsNone(self.bad_flaw(program, procedure, answer), (show_program(program), answer))
        self.assertTrue(answer[2] != "call" or "call" in show_program(program) or "take" in show_program(program))
        return answer[2]

    def assert_word(self, text, *words):
        program = read_program(text)
        self.assertIn(self.assert_sound(program, program[0][0]), words, text)

    def assert_good(self, text):
        self.assert_word(text, "good")

    def assert_bad(self, text):
        self.assert_word(text, "fall", "unfit")

    def assert_no_state_fails(self, chance, program, procedure, count):
        """Of states by chance that fit at the sections' begins none fails; how many there were is told."""
        seen = 0
        for path in begins(procedure[5]):
            telling, zeros = told_at(program, procedure[0], path)
            for trial in range(count):
                state = some_state(chance, telling, names_in(procedure))
                if state is None:
                    break
                values, heap = state
                values.update(dict.fromkeys(zeros, 0))
                other = dict(values)
                # Names may be the addresses of cells, of those that are made next, or others.
                for name in names_in(procedure):
                    if name not in zeros and chance.random() < 0.3:
                        other[name] = chance.choice(list(heap) + [max(heap, default=0) + 1, max(heap, default=0) + 2])
                for each in (values, other):
                    if fits(each, heap, telling):
                        told = failure(program, procedure, path, each, heap)
                        self.assertIsNone(told, (show_program(program), path, each, heap))
                        seen += 1
        return seen


class ToldTests(unittest.TestCase):
    """Point 30: told_at."""

    text = """proc p y x
gives r
before x not y, stretch x nil
behind tree r
set u x
while u not nil with x not y, u is x, stretch u nil
if u is x
while nil is b with nothing
while x is y with tree x
end
end
end
end
while r is u with tree y
end
end"""

    def assert_told(self, path, telling, names):
        told = told_at(read_program(self.text), "p", path)
        self.assertEqual(told, (read_telling(telling), names))
        self.assertEqual([type(told), type(told[0]), type(told[0][0]), type(told[0][1]), type(told[1])],
                         [tuple, tuple, list, list, list])

    def test_the_begin(self):
        self.assert_told((0,), "x not y, stretch x nil", ["b", "r", "u"])

    def test_bodies_of_loops(self):
        self.assert_told((1, 0, 0), "x not y, u is x, u not nil, stretch u nil", [])
        self.assert_told((1, 0, 0, 0, 0, 0, 0), "nil is b", [])
        self.assert_told((1, 0, 0, 0, 0, 0, 0, 0, 0), "x is y, tree x", [])
        self.assert_told((2, 0, 0), "r is u, tree y", [])

    def test_behind_loops(self):
        self.assert_told((2,), "x not y, u is x, u is nil, stretch u nil", [])
        self.assert_told((1, 0, 0, 0, 1), "nil not b", [])
        self.assert_told((1, 0, 0, 0, 0, 0, 1), "x not y, tree x", [])
        self.assert_told((3,), "r not u, tree y", [])

    def test_all_begins_are_told(self):
        program = read_program(self.text)
        paths = [(0,), (1, 0, 0), (1, 0, 0, 0, 0, 0, 0), (1, 0, 0, 0, 0, 0, 0, 0, 0), (1, 0, 0, 0, 0, 0, 1),
                 (1, 0, 0, 0, 1), (2,), (2, 0, 0), (3,)]
        self.assertEqual(begins(program[0][5]), paths)

    def test_other_procedures(self):
        program = read_program(self.text + "\nproc q\nbefore nothing\nbehind nothing\nend"
                               "\nproc s a\nbefore tree a\nbehind nothing\nwhile a is nil with nothing\nend\nend")
        self.assertEqual(told_at(program, "q", (0,)), (([], []), []))
        self.assertEqual(told_at(program, "s", (0,)), (([], [("tree", "a")]), []))
        self.assertEqual(told_at(program, "s", (1,)), (([("not", "a", "nil")], []), []))

    def test_eight_facts(self):
        facts = ", ".join(["x is x"] * 8)
        program = read_program(f"proc p x\nbefore nothing\nbehind nothing\nwhile x is nil with {facts}\nend\nend")
        self.assertEqual(told_at(program, "p", (1,))[0][0], [("is", "x", "x")] * 8 + [("not", "x", "nil")])

    def test_each_answer_is_the_askers_own(self):
        program = read_program(self.text)
        before = copy.deepcopy(program)
        for path in begins(program[0][5]):
            told = told_at(program, "p", path)
            expected = copy.deepcopy(told)
            empty(told)
            self.assertEqual(program, before)
            self.assertEqual(told_at(program, "p", path), expected)
            handed = copy.deepcopy(program)
            told = told_at(handed, "p", path)
            empty(handed)
            self.assertEqual(told, expected)


class RightTests(LookMixin, unittest.TestCase):
    """Points 31 and 32: procedures that are right, and such that are spoilt in one place."""

    def test_right_ones(self):
        chance = random.Random(31)
        for text in RIGHT:
            self.assert_good(text)
            program = read_program(text)
            self.assertGreater(self.assert_no_state_fails(chance, program, program[0], 25), 5, text)

    def test_spoilt_ones(self):
        chance = random.Random(32)
        seen = {"good": 0, "fall": 0, "unfit": 0}
        for text in RIGHT:
            for program in programs_of(spoilt(text)):
                word = self.assert_sound(program, program[0][0])
                seen[word] += 1
                if word == "good":
                    self.assert_no_state_fails(chance, program, program[0], 2)
        self.assertGreater(min(seen.values()), 100, seen)

    def test_each_right_one_can_be_spoilt(self):
        for text in RIGHT:
            words = {looked(program, program[0][0])[0] for program in programs_of(spoilt(text))}
            self.assertEqual(words, {"good", "bad"}, text)

    def assert_spoilt(self, name, row, other, *words):
        """The procedure of that name among the right ones is bad when a row is another one."""
        text = [text for text in RIGHT if text.startswith(f"proc {name} ")][0]
        self.assertIn("\n" + row + "\n", text)
        self.assert_word(text.replace("\n" + row + "\n", "\n" + other + "\n" if other else "\n", 1), *words)

    def test_lists_gone_along(self):
        self.assert_spoilt("last", "before x not nil, stretch x nil", "before stretch x nil", "fall")
        self.assert_spoilt("last", "before x not nil, stretch x nil", "before nothing", "fall")
        self.assert_spoilt("last", "read u r second", "", "unfit")
        # Without this one it goes round and round, which is no fault here.
        self.assert_spoilt("last", "set r u", "", "good")
        for behind in ("behind stretch x nil, cell r any nil", "behind stretch x r, r is nil"):
            self.assert_spoilt("last", "behind stretch x r, cell r any nil", behind, "unfit")
        self.assert_spoilt("last", "while u not nil with stretch x r, cell r any u, stretch u nil",
                           "while u not nil with stretch x r, stretch r u, stretch u nil", "fall", "unfit")
        self.assert_spoilt("last", "while u not nil with stretch x r, cell r any u, stretch u nil",
                           "while u is nil with stretch x r, cell r any u, stretch u nil", "fall", "unfit")

    def test_cells_lost(self):
        self.assert_spoilt("letgo", "free t", "", "unfit")
        self.assert_spoilt("turn", "write u second r", "", "unfit")
        self.assert_spoilt("drop", "free x", "", "unfit")
        self.assert_spoilt("join", "write u second y", "", "unfit")
        self.assert_spoilt("push", "new r x y", "new r x nil", "unfit")
        self.assert_bad(with_procedure("new r nil nil", behind="nothing"))
        self.assert_bad(with_procedure("new r x y; new r x y", behind="cell r x y"))
        self.assert_word(with_procedure("", before="tree x"), "unfit")

    def test_cells_freed_twice(self):
        self.assert_spoilt("drop", "free x", "free x\nfree x", "fall")
        self.assert_spoilt("letgo", "free t", "free t\nfree t", "fall")
        self.assert_spoilt("letgo", "free t", "free t\nfree u", "fall", "unfit")
        self.assert_word(with_procedure("set r x; free r; free x", before="cell x any any"), "fall")
        self.assert_word(with_procedure("new r x x; free r; write r first x"), "fall")
        self.assert_word(with_procedure("free x; read r x first", before="cell x any any"), "fall")

    def test_wrong_loop_tellings(self):
        row = "while u not nil with stretch u nil, stretch r nil"
        for other in ("while u not nil with stretch u nil", "while u not nil with stretch r nil",
                      "while u not nil with stretch u r, stretch r nil", "while u not nil with stretch u nil, tree r",
                      "while u not nil with u not nil, stretch u nil, stretch r nil",
                      "while u not nil with stretch u nil, stretch r nil, u not r", "while u not nil with nothing",
                      "while u not nil with stretch u nil, stretch r nil, stretch t nil",
                      "while u not r with stretch u nil, stretch r nil"):
            self.assert_spoilt("turn", row, other, "fall", "unfit")

    def test_trees(self):
        self.assert_spoilt("mirror", "write x second a", "", "unfit")
        self.assert_spoilt("mirror", "if x not nil", "if x is nil", "fall")
        self.assert_spoilt("node", "new r x y", "new r x x", "unfit")
        self.assert_spoilt("turnleft", "write b first x", "write b first c", "unfit")
        self.assert_spoilt("turnleft", "if b is nil", "if b is x", "fall")
        self.assert_good(with_procedure("read a x first; free x; set r a", before="cell x y nil, tree y",
                                        behind="tree r, r is y"))
        self.assert_word(with_procedure("read r x first", "x not nil, tree x", "tree x, r not nil"), "unfit")
        self.assert_good(with_procedure("free x", before="cell x nil nil"))
        self.assert_word(with_procedure("free x", before="x not nil, tree x"), "unfit")


class EdgeTests(LookMixin, unittest.TestCase):
    """Points 30 to 32: what names may be, conditions and reads."""

    def test_names_that_are_no_params_are_0_at_the_begin(self):
        self.assert_good(with_procedure("", behind="r is nil"))
        self.assert_good(with_procedure("if u is nil; else; free x; end"))
        self.assert_good(with_procedure("set r u", behind="r is nil"))
        self.assert_word(with_procedure("free u"), "fall")
        self.assert_word(with_procedure("", behind="r is x"), "unfit")
        self.assert_word(with_procedure("", behind="x is nil"), "unfit")

    def test_names_that_no_telling_names_may_be_anything_at_a_loop(self):
        self.assert_good(in_loop("nothing", "set u x"))
        for body in ("if u is nil; else; free nil0; end", "if u is nil; free nil0; end", "if u is v; free nil0; end",
                     "if u not v; free nil0; end", "if u is x; free nil0; end", "free u", "read v u first"):
            self.assert_word(in_loop("nil0 is nil", body), "fall")
        self.assert_bad(with_procedure("while x is y with nothing; end; set u r", behind="r is nil"))
        self.assert_bad(with_procedure("while x not x with nothing; end", behind="r is nil"))
        self.assert_good(with_procedure("while x not x with r is nil; end", behind="r is nil"))

    def test_values_that_may_be_the_address_of_a_new_cell(self):
        self.assert_good(in_loop("nothing", "new t nil nil; if t is u; free u; else; free t; end"))
        self.assert_word(in_loop("nothing", "new t nil nil; if t is u; else; free t; end"), "unfit")
        for telling in ("stretch x nil", "cell x any any", "tree x, stretch y nil"):
            self.assert_good(in_loop(telling, "new t nil nil; if t is u; free u; else; free t; end", telling))
            for body in ("new t nil nil; if t is u; else; free t; end",
                         "new t nil nil; new v t t; if v is u; else; free t; free v; end",
                         "new t nil nil; free t; new t nil nil; if t is u; else; free t; end"):
                self.assert_word(in_loop(telling, body, telling), "unfit")
        for telling in ("cell x any any", "x not nil, stretch x nil"):
            body = "read u x first; new t nil nil; if t is u; else; free t; end"
            self.assert_word(in_loop(telling, body, telling), "unfit")
            self.assert_good(in_loop(telling, body.replace("else; free t; end", "end; free t"), telling))
        # But not that of a cell that lies or lay there, nor nil, nor another new one.
        for body in ("new t nil nil; if t is x; else; free t; end", "new t nil nil; if t is nil; else; free t; end",
                     "free x; new x0 nil nil; free x0; new t nil nil; if t is x0; else; free t; end; set x1 x"):
            self.assert_good(with_procedure(body.replace("set x1 x", "if x is x; end"), before="cell x any any",
                                            behind="nothing" if "free x;" in body else "cell x any any"))
        self.assert_good(with_procedure("free x; new t nil nil; if t is x; else; free t; end", before="cell x any any"))
        self.assert_good(with_procedure("new t nil nil; read u x second; if t is x; free nil0; end; free t",
                                        before="x not nil, stretch x nil", behind="stretch x nil"))
        # An address amid a stretch that hasn't been looked at is none of a new cell either.
        self.assert_good(with_procedure("new t nil nil; read u x second; if u is t; free nil0; end; free t",
                                        before="x not nil, stretch x nil", behind="stretch x nil"))

    def test_conditions_of_two_that_are_neither_known_to_be_alike_nor_unlike(self):
        self.assert_good(with_procedure("if x is y; set r x; else; set r nil; end", before="tree x", behind="tree x"))
        self.assert_word(with_procedure("if x is y; free x; end", before="cell x any any", behind="cell x any any"),
                         "unfit")
        self.assert_word(with_procedure("if x is y; free y; free x; end", before="cell x any any", behind="x not y, "
                                        "cell x any any"), "fall")
        self.assert_good(with_procedure("if x is y; free y; else; free x; end", before="cell x any any"))
        self.assert_good(with_procedure("if x is y; free nil0; end", before="cell x any any, cell y any any",
                                        behind="cell x any any, cell y any any"))
        self.assert_word(with_procedure("if x not y; free nil0; end", before="cell x any any, cell y any any",
                                        behind="cell x any any, cell y any any"), "fall")
        # Alike they are both nil.
        self.assert_good(with_procedure("if x is y; if x not nil; free nil0; end; end", before="tree x, stretch y nil",
                                        behind="tree x, stretch y nil"))
        self.assert_good(with_procedure("if x is y; else; set r x; end", before="stretch x y",
                                        behind="stretch x y"))

    def test_reads_whose_value_may_be_nil(self):
        self.assert_word(with_procedure("read u x second; read v u second", before="x not nil, stretch x nil",
                                        behind="stretch x nil"), "fall")
        self.assert_good(with_procedure("read u x second; if u not nil; read v u second; end",
                                        before="x not nil, stretch x nil", behind="stretch x nil"))
        self.assert_word(with_procedure("read u x first; read v u first", before="x not nil, tree x", behind="tree x"),
                         "fall")

    def test_reads_whose_value_may_be_anything(self):
        for body in ("read u x first; free u", "read u x first; if u not nil; read v u first; end",
                     "read u x first; if u not nil; if u not x; write u first x; end; end"):
            self.assert_word(with_procedure(body, before="x not nil, stretch x nil", behind="stretch x nil"), "fall")
        self.assert_good(with_procedure("read u x first; if u is x; write u first u; end",
                                        before="x not nil, stretch x nil", behind="stretch x nil"))
        self.assert_good(with_procedure("read u x first; write x first nil; write x second u",
                                        before="cell x any y", behind="cell x nil any"))
        self.assert_word(with_procedure("read u x first; write x second u",
                                        before="cell x any y", behind="cell x any y"), "unfit")

    def test_addresses_amid_a_stretch(self):
        # The end of one may lie amid the other.
        self.assert_word(with_procedure("", before="stretch x y, stretch y z", behind="stretch x z", params="x y z"),
                         "unfit")
        self.assert_word(with_procedure("if y not z; if x not z; read u x second; end; end", params="x y z",
                                        before="x not y, stretch x y, stretch y z", behind="stretch x z"), "unfit")
        self.assert_good(with_procedure("", before="stretch x y, stretch y z, z is nil", behind="stretch x z",
                                        params="x y z"))
        # A place amid it can't be told from one without a cell.
        self.assert_word(with_procedure("free y", before="stretch x nil", behind="stretch x nil"), "fall")
        self.assert_word(with_procedure("if y not nil; if y not x; read u y second; end; end", before="stretch x nil",
                                        behind="stretch x nil"), "fall")
        self.assert_word(with_procedure("", before="stretch x nil", behind="stretch x y, stretch y nil"), "unfit")
        # Behind the cell that is freed here nothing lies amid the stretch that is gone along.
        self.assert_good(with_procedure("write y second z; free z", "stretch x y, cell y any any, cell z any any",
                                        "stretch x z", "x y z"))

    def test_addresses_that_lay_there(self):
        # z was a cell's, so it can't lie amid the stretch; and no stretch may end amid.
        self.assert_good(with_procedure("free z", "stretch x y, stretch y z, cell z any any", "stretch x z", "x y z"))
        self.assert_good(with_procedure("new r nil nil; write y second r; free r",
                                        before="stretch x y, cell y any any", behind="stretch x r"))
        self.assert_word(with_procedure("new r nil nil; write y second r",
                                        before="stretch x y, cell y any any", behind="stretch x r"), "unfit")

    def test_facts_of_tellings(self):
        self.assert_good(with_procedure("", before="x is y, tree x", behind="tree y"))
        self.assert_word(with_procedure("", before="x is y, tree x", behind="tree y, x not y"), "unfit")
        self.assert_good(with_procedure("", before="x not x", behind="cell r any any"))
        self.assert_good(with_procedure("free y", before="x is nil, cell x any any"))
        self.assert_good(with_procedure("free r", before="x not nil, tree x, stretch x y, x not y"))
        self.assert_good(with_procedure("set r x", before="x not y", behind="r not y"))

    def test_sections_that_are_over_at_once(self):
        self.assert_good(with_procedure("", before="tree x", behind="tree x"))
        self.assert_good(with_procedure("while x is nil with tree x; end", before="tree x", behind="x not nil, tree x"))
        self.assert_word(with_procedure("while x is nil with tree x; end", before="tree y", behind="x not nil, tree x"),
                         "unfit")
        self.assert_word(with_procedure("while x is nil with tree x; end", before="tree x", behind="x is nil"), "unfit")
        # Behind the inner loop stands the outer one.
        text = "while r is x with tree x, u is nil; while y is u with {}; end; end"
        self.assert_good(with_procedure(text.format("u is nil, tree x"), before="tree x", behind="r not x, tree x"))
        self.assert_word(with_procedure(text.format("tree x"), before="tree x", behind="r not x, tree x"), "unfit")
        # A loop's body without deeds ends at the loop.
        program = read_program(with_procedure("if x is x; while y is u with tree x; end; end", before="tree x",
                                              behind="tree x"))
        self.assertEqual(looked(program, "p"), ("good",))

    def test_the_path_that_is_told(self):
        for text, path in (
                (with_procedure("free u"), (0,)),
                (with_procedure("while x is x with nothing; free u; end"), (0, 0, 0)),
                (with_procedure("while x is x with nothing; end; free u"), None),
                (with_procedure("while x not x with nothing; end; free u"), (1,)),
                (with_procedure("if x is x; while x not x with nothing; end; free u; end"), (0, 0, 1)),
                (with_procedure("while x not y with nothing; end", behind="x not y"), (1,)),
        ):
            answer = looked(read_program(text), "p")
            self.assertEqual(answer[1] if answer != ("good",) else None, path, text)

    def test_five_ifs(self):
        rows = ["if x is y", "set r x", "end", "if y is z", "set r y", "end", "if z is w", "set r z", "else", "set r r",
                "end", "if r is nil", "else", "if r is w", "set r nil", "end", "end"]
        self.assert_good(with_procedure("; ".join(rows), params="x y z w", result="r",
                                        before="tree x, tree y, tree z, stretch w nil",
                                        behind="stretch w nil, tree z, tree y, tree x"))
        # Where two of them are alike they are nil.
        behind = "stretch w nil, tree z, tree y, tree x, r is nil"
        for row, word in (("if x is y", "good"), ("if x not y", "unfit")):
            body = "; ".join([row] + rows[1:])
            self.assert_word(with_procedure(body, "tree x, tree y, tree z, stretch w nil", behind, "x y z w"), word)
        # Of the many ways one is wrong.
        ifs = "; ".join(f"if {a} is {b}; else; set r nil; end" for a, b in ("xy", "yz", "zw", "wx"))
        for deeds, word in (("write x first y", "good"), ("free x", "unfit"), ("free x; free y", "fall")):
            body = f"set r x; {ifs}; if r is x; {deeds}; end"
            self.assert_word(with_procedure(body, "cell x any any", "cell x any any", "x y z w"), word)

    def test_great_tellings(self):
        telling = ("x not y, y not z, x not z, z not w, nil not x, x not nil, y not nil, z not nil, "
                   "stretch x y, stretch y z, cell z any w, tree w, stretch x x, tree nil")
        for body, word in (("", "good"), ("write z second w", "good"), ("read u x second", "good"),
                           ("read u y second", "good"), ("read u w first", "fall"), ("write z second x", "unfit"),
                           ("write y second x", "unfit"), ("write z first y", "good"), ("free z", "unfit"),
                           ("new r x y; free r", "good"), ("new r x y", "unfit"), ("free z; free z", "fall"),
                           ("read u x second; read u u second; read u u second", "good"),
                           ("read u x second; read u u second; read u u second; read u u second", "fall"),
                           ("write x first w", "good")):
            self.assert_word(with_procedure(body, telling, telling, "x y z w"), word)


class ChanceMixin(LookMixin):
    def some_deeds(self, chance, names, others, around):
        return [self.some_deed(chance, names, others, around)
                for count in range(chance.randint(0, 4 if around == 0 else 2))]

    def some_deed(self, chance, names, others, around):
        words = names + ["nil"]
        condition = (chance.choice(("is", "not")), chance.choice(words), chance.choice(words))
        field = chance.choice(("first", "second", "second"))
        if around < 2 and chance.random() < 0.15:
            return ("if", condition, self.some_deeds(chance, names, others, around + 1),
                    self.some_deeds(chance, names, others, around + 1))
        if around < 2 and chance.random() < 0.1:
            return ("while", condition, some_telling(chance, names, 1, 2),
                    self.some_deeds(chance, names, others, around + 1))
        return chance.choice((
            ("set", chance.choice(others), chance.choice(words)), ("free", chance.choice(names)),
            ("read", chance.choice(others), chance.choice(names), field),
            ("write", chance.choice(names), field, chance.choice(words)),
            ("new", chance.choice(others), chance.choice(words), chance.choice(words)),
        ))


class ChanceTests(ChanceMixin, unittest.TestCase):
    """Points 31 and 32: procedures by chance."""

    def some_procedure(self, chance):
        params, others = ("x", "y")[:chance.randint(0, 2)], ["u", "v", "r"][:chance.randint(1, 3)]
        names = list(params) + others
        body = self.some_deeds(chance, names, others, 0)
        if chance.random() < 0.5:
            body = [("while", ("is", "nil", "nil"), some_telling(chance, names, 2, 3), body)]
        result = others[-1] if chance.random() < 0.5 else ""
        behind = some_telling(chance, params + ((result,) if result else ()), 1, 2)
        return ("p", params, result, some_telling(chance, params, 1, 2), behind, body)

    def test_procedures_by_chance(self):
        chance = random.Random(33)
        seen = {"good": 0, "fall": 0, "unfit": 0, "states": 0}
        for count in range(1500):
            program = [self.some_procedure(chance)]
            check_program(program)
            word = self.assert_sound(program, "p")
            seen[word] += 1
            if word == "good":
                seen["states"] += self.assert_no_state_fails(chance, program, program[0], 5)
        self.assertGreater(min(seen.values()), 80, seen)

    def test_ends_that_follow_from_begins(self):
        """Without deeds a procedure is good just where what is behind follows from what is before."""
        chance = random.Random(34)
        seen = {"good": 0, "unfit": 0}
        for count in range(800):
            params = ("x", "y", "z", "w")
            before = some_telling(chance, params, 2, 4)
            behind = some_telling(chance, params, 1, 2)
            if count % 3:
                behind = (before[0], chance.sample(before[1], len(before[1])))
            program = [("p", params, "", before, behind, [])]
            word = self.assert_sound(program, "p")
            seen[word] += 1
            if count % 3:
                self.assertEqual(word, "good", (show_telling(before), show_telling(behind)))
        self.assertGreater(min(seen.values()), 50, seen)


class SmallHeapTests(ChanceMixin, unittest.TestCase):
    """Points 31 and 32: of all small states none fails in a section that is let by."""

    def all_states(self, names, telling):
        """All states of numbers up to 3 and at most two cells that fit."""
        cells = [None] + list(itertools.product(range(4), repeat=2))
        heaps = [{address: cell for address, cell in ((1, one), (2, other)) if cell is not None}
                 for one, other in itertools.product(cells, repeat=2)]
        for numbers in itertools.product(range(4), repeat=len(names)):
            values = dict(zip(names, numbers))
            if cover(values, {}, (telling[0], [])) is not None:
                yield from [(values, heap) for heap in heaps if fits(values, heap, telling)]

    def test_procedures_by_chance(self):
        chance = random.Random(36)
        params = ("x", "y")
        seen = {"good": 0, "fall": 0, "unfit": 0}
        while seen["good"] < 60:
            # It is the outer loop's body that is looked at: all else is over at once, or clashes.
            telling = some_telling(chance, params, 1, 2)
            end = telling if chance.random() < 0.5 else some_telling(chance, params, 1, 2)
            deeds = [deed for deed in self.some_deeds(chance, ["x", "y", "u"], ["u"], 0) if deed[0] != "while"]
            loop = ("while", ("is", "nil", "nil"), telling, deeds + [("while", ("is", "nil", "nil"), end, [])])
            program = [("p", params, "", telling, ([], []), [loop])]
            if len(deeds) == 0 or clashes(telling[0], telling[1]):
                continue
            word = self.assert_sound(program, "p")
            seen[word] += 1
            if word == "good":
                for values, heap in self.all_states(names_in(program[0]), telling):
                    state = (show_program(program), values, heap)
                    self.assertIsNone(failure(program, program[0], (0, 0, 0), values, heap), state)
        self.assertGreater(min(seen.values()), 20, seen)


class CallTests(LookMixin, unittest.TestCase):
    """Points 33 and 35."""

    def test_calling_ones(self):
        for text in CALLING:
            program = read_program(text)
            for procedure in program:
                self.assertEqual(looked(program, procedure[0]), ("good",), text)

    def some_call(self, chance):
        """A procedure whose only deed is a call as point 35 tells, and the called one."""
        params = tuple(chance.sample(("a", "b", "c", "d", "e"), chance.randint(0, 4)))
        mine = tuple(chance.sample(("a", "b", "x", "y", "z"), len(params)))
        result = chance.choice(("", "r"))
        other = chance.choice(("r", "s")) if result else ""
        before = some_telling(chance, params, chance.choice((0, 1, 8)), 6)
        behind = some_telling(chance, params + ((result,) if result else ()), chance.choice((0, 1, 8)), 6)
        names = dict(zip(params + (result,), mine + (other,)))
        called = ("q", params, result, before, behind, [])
        body = [("call", other, "q", mine)]
        return [("p", mine, other, renamed(before, names), renamed(behind, names), body), called]

    def test_a_call_alone_is_let_by(self):
        chance = random.Random(35)
        for count in range(1500):
            program = self.some_call(chance)
            check_program(program)
            self.assertEqual(looked(program, "p"), ("good",), show_program(program))
            # A call of itself, too.
            alone = [program[0][:5] + ([("call", program[0][2], "p", program[0][1])],)]
            self.assertEqual(looked(alone, "p"), ("good",), show_program(alone))

    def test_some_calls_alone(self):
        for before, behind, result in (("tree x, stretch y nil", "tree r, x not y", "r"), ("nothing", "nothing", ""),
                                       ("x not x", "x is y", ""), ("cell x any y, stretch y nil", "stretch x nil", ""),
                                       ("stretch x y, stretch y x", "r is y, cell r any any", "r")):
            names = {"x": "a", "y": "b", "r": "c"}
            take = f"take {result} q x y" if result else "call q x y"
            called = [show_telling(renamed(read_telling(text), names)) for text in (before, behind)]
            gives = "gives c\n" if result else ""
            self.assert_good(with_procedure(take, before, behind, result=result)
                             + f"\nproc q a b\n{gives}before {called[0]}\nbehind {called[1]}\nend")

    def assert_wrong_call(self, text):
        self.assert_word(text, "call", "fall", "unfit")

    def test_wrong_calls(self):
        called = "\nproc q a\ngives b\nbefore cell a any nil\nbehind cell a b b\nend"
        for body, before, behind in (("take r q x", "nothing", "nothing"), ("take r q x", "cell y any nil", "nothing"),
                                     ("take r q x", "cell x any any", "cell x r r"),
                                     ("take r q x", "cell x any nil", "cell x any nil"),
                                     ("take r q x", "cell x any nil", "nothing"),
                                     ("take r q x", "cell x any nil, tree y", "cell x r r"),
                                     ("take r q x", "x not nil, stretch x nil", "cell x r r"),
                                     ("take r q nil", "cell x any nil", "cell x r r"),
                                     ("take r q y", "cell x any nil", "cell x r r"),
                                     ("take r q x; take r q x", "cell x any nil", "cell x r r"),
                                     ("take r q x; free x; free x", "cell x any nil", "nothing"),
                                     ("take r q x; free r", "cell x any nil", "cell x r r"),
                                     ("take r q x", "cell x any nil", "cell x r r, r not nil"),
                                     ("take u q x", "cell x any nil", "cell x r r")):
            self.assert_wrong_call(with_procedure(body, before, behind) + called)
        self.assert_good(with_procedure("take r q x", "cell x y nil, tree y", "cell x r r, tree y") + called)
        self.assert_good(with_procedure("take r q x; free x", "cell x any nil", "nothing") + called)

    def test_a_failure_ahead_of_a_call(self):
        called = "\nproc q a\nbefore nothing\nbehind nothing\nend"
        self.assert_word(with_procedure("free x; call q x") + called, "fall")
        one = "cell x any any"
        self.assert_word(with_procedure("if x is y; free x; end; call q x", one, one) + called, "unfit", "call")
        self.assert_word(with_procedure("call q x", "nothing", "tree x") + called, "call")
        self.assert_word(with_procedure("call q x; while x is y with nothing; free x; end") + called, "fall")
        self.assert_word(with_procedure("while x is y with nothing; call q x; free x; end") + called, "call")

    def test_what_is_behind_a_call(self):
        # Params keep their values, the result may have any, and all else stays as it was.
        called = "\nproc q a\ngives b\nbefore tree a\nbehind tree a, stretch b nil\nend"
        self.assert_good(with_procedure("read u x first; take r q y; read v x first; if u not v; free nil0; end",
                                        "cell x any nil, tree y", "cell x any nil, tree y, stretch r nil") + called)
        self.assert_wrong_call(with_procedure("take r q y; if r is nil; else; free nil0; end", "tree y",
                                              "tree y, stretch r nil") + called)
        self.assert_wrong_call(with_procedure("take r q y; if r is x; free nil0; end", "tree y",
                                              "tree y, stretch r nil") + called)
        self.assert_good(with_procedure("take r q y; if r is x; if r not nil; free nil0; end; end",
                                        "cell x any any, tree y", "cell x any any, tree y, stretch r nil") + called)
        self.assert_wrong_call(with_procedure("take r q y; take r q y", "tree y", "tree y, stretch r nil") + called)
        self.assert_good(with_procedure("take r q y; new r x r", "tree y", "tree y, stretch r nil") + called)
        self.assert_good(with_procedure("take r q nil", "tree y", "tree y, stretch r nil") + called)

    def test_what_is_known_stays_known_behind_a_call(self):
        called = "\nproc q a\nbefore cell a any any\nbehind nothing\nfree a\nend"
        body = "call q x; if x is y; free nil0; end; if nil is x; free nil0; end; if y is nil; free nil0; end; free y"
        self.assert_good(with_procedure(body, "cell x any any, cell y any any") + called)
        body = "new r x nil; call q r; if r is y; free nil0; end; if nil is r; free nil0; end"
        self.assert_good(with_procedure(body, "cell y any any", "cell y any any") + called)
        body = "if x is y; call q x; if y not x; free nil0; end; else; call q x; if y is x; free nil0; end; end"
        self.assert_good(with_procedure(body, "cell x any any") + called)

    def test_cells_of_stretches_and_trees(self):
        called = "\nproc q a\ngives b\nbefore cell a any any\nbehind cell a nil b\nend"
        self.assert_good(with_procedure("if x not nil; read u x second; take r q x; write x second u; end",
                                        "stretch x nil", "stretch x nil") + called)
        self.assert_good(with_procedure("if x not nil; read u x first; read v x second; take r q x; write x first u; "
                                        "write x second v; end", "tree x", "tree x") + called)
        self.assert_word(with_procedure("take r q x", "stretch x nil", "stretch x nil") + called, "call")
        self.assert_word(with_procedure("if x not nil; take r q x; end", "stretch x nil", "stretch x nil") + called,
                         "call")

    def test_spoilt_calling_ones(self):
        seen = {"good": 0, "fall": 0, "unfit": 0, "call": 0}
        for text in CALLING:
            for program in programs_of(spoilt(text)):
                for procedure in program:
                    seen[self.assert_sound(program, procedure[0])] += 1
        self.assertGreater(min(seen.values()), 50, seen)


class WholeTests(LookMixin, unittest.TestCase):
    """Points 4 and 34: programs all of whose procedures are let by, run from whatever fits, with cells beside."""

    def assert_runs(self, chance, program, count):
        """How many of the runs came to their end is told."""
        ended = 0
        for procedure in program:
            for trial in range(count):
                state = some_state(chance, procedure[3], list(procedure[1]))
                if state is None:
                    break
                heap = state[1]
                beside = {chance.randint(1, chance.choice((9, 400))): (chance.randint(0, 9), chance.randint(0, 400))
                          for count in range(4)}
                beside = {address: cell for address, cell in beside.items() if address not in heap}
                values = dict.fromkeys(names_in(procedure), 0) | state[0]
                made = Machine(program, procedure[0], (0,), values, heap | beside)
                for step in range(chance.choice((30, 400))):
                    made.step()
                    now = made.heap()
                    self.assertNotEqual(made.word(), "fall", (show_program(program), values, heap, beside))
                    self.assertEqual({address: now.get(address) for address in beside}, beside)
                if made.word() == "end":
                    others = {address: now[address] for address in now if address not in beside}
                    self.assertTrue(fits(made.held(), others, procedure[4]),
                                    (show_program(program), procedure[0], values, heap, beside))
                    ended += 1
        return ended

    def test_right_and_calling_ones(self):
        chance = random.Random(4)
        for text in RIGHT + CALLING:
            self.assertGreater(self.assert_runs(chance, read_program(text), 12), 3, text)

    def test_spoilt_ones_that_are_let_by(self):
        chance = random.Random(5)
        seen = 0
        for text in RIGHT + CALLING:
            for program in programs_of(spoilt(text)):
                if all(looked(program, procedure[0]) == ("good",) for procedure in program):
                    seen += self.assert_runs(chance, program, 1)
        self.assertGreater(seen, 300)


class OwnTests(LookMixin, unittest.TestCase):
    """Point 2."""

    def test_nothing_that_is_handed_in_is_changed(self):
        for text in RIGHT + CALLING + (with_procedure("free u"), with_procedure("", "tree x", "tree y")):
            program = read_program(text)
            before = copy.deepcopy(program)
            for procedure in program:
                looked(program, procedure[0])
            self.assertEqual(program, before)

    def test_each_answer_is_the_askers_own(self):
        for text in (with_procedure("free u"), with_procedure("", "tree x, stretch y nil", "tree y")):
            program = read_program(text)
            answer = looked(program, "p")
            expected = copy.deepcopy(answer)
            found = lists_of(program)
            answer[3].clear()
            answer[4].clear()
            self.assertEqual(lists_of(program), found)
            self.assertEqual(looked(program, "p")[:3], expected[:3])
            self.assert_sound(program, "p")


if __name__ == "__main__":
    unittest.main()
