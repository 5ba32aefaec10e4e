import copy
import random
import unittest

from apart.machine import Machine
from apart.paths import settled
from apart.programs import check_program, names_in
from apart.texts import read_program
from telling_cases import empty, some_program

NOTHING = ([], [])
ALWAYS = ("is", "nil", "nil")
NEVER = ("not", "nil", "nil")


class Fell(Exception):
    """A step found no cell."""


class Reference:
    """A run told by points 27 to 29: each place where it stands, one after the other."""

    def __init__(self, program, name, path, values, heap):
        self.procedures = {procedure[0]: procedure for procedure in program}
        self.heap = dict(heap)
        self.greatest = max(heap, default=0)
        self.values = {each: values[each] for each in names_in(self.procedures[name])}
        self.places = self.standing(name, self.values, self.procedures[name][5], (), path)

    def standing(self, name, values, deeds, ahead, start):
        """Where one stands, deed by deed, in a list of deeds; start is a path in it."""
        for number in range(start[0], len(deeds)):
            deed, path = deeds[number], ahead + (number,)
            lists = {"if": deed[2:], "while": deed[3:]}.get(deed[0])
            inner = start[1:] if number == start[0] else ()
            if inner:
                yield from self.standing(name, values, lists[inner[0]], path + inner[:1], inner[1:])
            if inner and deed[0] == "if":
                continue
            yield (name, path, values)
            if deed[0] == "while":
                while self.holds(values, deed[1]):
                    yield from self.standing(name, values, deed[3], path + (0,), (0,))
                    yield (name, path, values)
            elif deed[0] == "if":
                side = 0 if self.holds(values, deed[1]) else 1
                yield from self.standing(name, values, lists[side], path + (side,), (0,))
            elif deed[0] == "call":
                called = self.procedures[deed[2]]
                theirs = dict.fromkeys(names_in(called), 0)
                theirs.update(zip(called[1], [self.number(values, word) for word in deed[3]]))
                yield from self.standing(called[0], theirs, called[5], (), (0,))
                if deed[1]:
                    values[deed[1]] = theirs[called[2]]
            else:
                self.do(values, *deed)

    def number(self, values, word):
        return 0 if word == "nil" else values[word]

    def holds(self, values, condition):
        alike = self.number(values, condition[1]) == self.number(values, condition[2])
        return alike if condition[0] == "is" else not alike

    def cell(self, address):
        if address not in self.heap:
            raise Fell
        return self.heap[address]

    def do(self, values, word, x, *others):
        if word == "set":
            values[x] = self.number(values, others[0])
        elif word == "read":
            first, second = self.cell(values[others[0]])
            values[x] = first if others[1] == "first" else second
        elif word == "write":
            first, second = self.cell(values[x])
            value = self.number(values, others[1])
            self.heap[values[x]] = (value, second) if others[0] == "first" else (first, value)
        elif word == "new":
            cell = (self.number(values, others[0]), self.number(values, others[1]))
            self.greatest += 1
            self.heap[self.greatest] = cell
            values[x] = self.greatest
        else:
            self.cell(values[x])
            del self.heap[values[x]]


def procedure(body=(), name="p", params=("x", "y"), result=""):
    return (name, params, result, NOTHING, NOTHING, list(body))


def machine(body, values, heap, path=(0,), others=()):
    """A machine of a procedure p with these deeds, among other procedures."""
    program = [procedure(body)] + list(others)
    check_program(program)
    return Machine(program, "p", path, dict.fromkeys(names_in(program[0]), 0) | values, heap)


class MachineMixin:
    def assert_stands(self, made, word, where, held, heap):
        self.assertEqual((made.word(), made.where(), made.held(), made.heap()), (word, where, held, heap))

    def assert_run(self, body, values, heap, steps, word, held, after):
        """So many steps bring it to its end or let it fall, and no other one does anything then."""
        made = machine(body, values, heap)
        for count in range(steps):
            self.assertEqual(made.word(), "on")
            self.assertIsNone(made.step())
        for count in range(3):
            self.assertEqual((made.word(), made.held(), made.heap()), (word, held, after))
            self.assertIsNone(made.step())
            self.assertEqual(made.go(5), 0)

    def assert_like_reference(self, program, name, path, values, heap, most):
        """Each step brings it where the reference stands."""
        made = Machine(program, name, path, values, heap)
        reference = Reference(program, name, path, values, heap)
        place = None
        for count in range(most):
            try:
                place = next(reference.places)
            except StopIteration:
                self.assert_stands(made, "end", None, reference.values, reference.heap)
                return "end"
            except Fell:
                self.assert_stands(made, "fall", place[:2], place[2], reference.heap)
                return "fall"
            self.assert_stands(made, "on", place[:2], place[2], reference.heap)
            made.step()
        return "on"


class DeedTests(MachineMixin, unittest.TestCase):
    """Points 23 and 27: each deed by itself."""

    def test_set(self):
        self.assert_run([("set", "u", "x")], {"x": 7, "u": 3}, {}, 1, "end", {"x": 7, "y": 0, "u": 7}, {})
        self.assert_run([("set", "u", "nil")], {"x": 7, "u": 3}, {}, 1, "end", {"x": 7, "y": 0, "u": 0}, {})
        self.assert_run([("set", "u", "u")], {"u": 3}, {}, 1, "end", {"x": 0, "y": 0, "u": 3}, {})

    def test_read(self):
        heap = {5: (8, 9), 9: (0, 5)}
        self.assert_run([("read", "u", "x", "first")], {"x": 5}, heap, 1, "end", {"x": 5, "y": 0, "u": 8}, heap)
        self.assert_run([("read", "u", "x", "second")], {"x": 5}, heap, 1, "end", {"x": 5, "y": 0, "u": 9}, heap)
        self.assert_run([("read", "u", "u", "second")], {"u": 5}, heap, 1, "end", {"x": 0, "y": 0, "u": 9}, heap)
        self.assert_run([("read", "u", "u", "second")] * 3, {"u": 5}, heap, 3, "end", {"x": 0, "y": 0, "u": 9}, heap)

    def test_write(self):
        for field, cell in (("first", (3, 9)), ("second", (8, 3))):
            self.assert_run([("write", "x", field, "y")], {"x": 5, "y": 3}, {5: (8, 9), 6: (8, 9)}, 1,
                            "end", {"x": 5, "y": 3}, {5: cell, 6: (8, 9)})
        for deed, cell in ((("write", "x", "first", "nil"), (0, 9)), (("write", "x", "second", "x"), (8, 5))):
            self.assert_run([deed], {"x": 5}, {5: (8, 9)}, 1, "end", {"x": 5, "y": 0}, {5: cell})

    def test_new(self):
        self.assert_run([("new", "u", "x", "y")], {"x": 5, "y": 6}, {}, 1, "end", {"x": 5, "y": 6, "u": 1}, {1: (5, 6)})
        self.assert_run([("new", "u", "nil", "x")], {"x": 5}, {4: (1, 1)}, 1, "end", {"x": 5, "y": 0, "u": 5},
                        {4: (1, 1), 5: (0, 5)})
        # The values are taken ahead of the name's new one.
        self.assert_run([("new", "u", "u", "u")], {"u": 9}, {}, 1, "end", {"x": 0, "y": 0, "u": 1}, {1: (9, 9)})

    def test_free(self):
        self.assert_run([("free", "x")], {"x": 5}, {5: (8, 9), 6: (5, 5)}, 1, "end", {"x": 5, "y": 0}, {6: (5, 5)})

    def test_if(self):
        for condition, values, side in ((("is", "x", "y"), (4, 4), "first"), (("is", "x", "y"), (4, 5), "second"),
                                        (("not", "x", "y"), (4, 4), "second"), (("not", "x", "y"), (4, 5), "first"),
                                        (("is", "x", "nil"), (0, 1), "first"), (("not", "nil", "y"), (0, 0), "second")):
            body = [("if", condition, [("write", "u", "first", "u")], [("write", "u", "second", "u")])]
            after = {1: (1, 7)} if side == "first" else {1: (7, 1)}
            values = {"x": values[0], "y": values[1], "u": 1}
            self.assert_run(body, values, {1: (7, 7)}, 2, "end", values, after)

    def test_lists_without_deeds(self):
        self.assert_run([], {}, {}, 0, "end", {"x": 0, "y": 0}, {})
        self.assert_run([("if", ALWAYS, [], [])], {}, {}, 1, "end", {"x": 0, "y": 0}, {})
        self.assert_run([("if", NEVER, [], [])], {}, {}, 1, "end", {"x": 0, "y": 0}, {})
        self.assert_run([("if", NEVER, [("free", "x")], [])], {}, {}, 1, "end", {"x": 0, "y": 0}, {})
        self.assert_run([("while", NEVER, NOTHING, [])], {}, {}, 1, "end", {"x": 0, "y": 0}, {})
        self.assert_run([("if", ALWAYS, [("if", NEVER, [], [])], [])], {}, {}, 2, "end", {"x": 0, "y": 0}, {})
        made = machine([("while", ALWAYS, NOTHING, [])], {}, {})
        self.assertEqual(made.go(4000), 4000)
        self.assert_stands(made, "on", ("p", (0,)), {"x": 0, "y": 0}, {})

    def test_while(self):
        body = [("set", "u", "x"), ("while", ("not", "u", "nil"), NOTHING, [("read", "u", "u", "second")])]
        heap = {3: (0, 1), 1: (0, 2), 2: (0, 0)}
        self.assert_run(body, {"x": 3}, heap, 1 + 2 * 3 + 1, "end", {"x": 3, "y": 0, "u": 0}, heap)
        self.assert_run(body, {"x": 0}, heap, 2, "end", {"x": 0, "y": 0, "u": 0}, heap)
        made = machine(body, {"x": 3}, heap)
        places = []
        while made.word() == "on":
            places.append(made.where()[1])
            made.step()
        self.assertEqual(places, [(0,), (1,), (1, 0, 0), (1,), (1, 0, 0), (1,), (1, 0, 0), (1,)])


class FallTests(MachineMixin, unittest.TestCase):
    """Point 29."""

    def test_each_deed_that_falls(self):
        for deed in (("read", "u", "x", "first"), ("read", "u", "x", "second"), ("write", "x", "first", "y"),
                     ("write", "x", "second", "nil"), ("free", "x"), ("read", "u", "u", "first")):
            for address in (0, 3, 9, 10 ** 60 - 1):
                made = machine([("set", "u", "x"), deed, ("set", "u", "y")], {"x": address, "y": 4}, {4: (1, 2)})
                self.assertEqual(made.go(100), 2)
                for count in range(3):
                    self.assert_stands(made, "fall", ("p", (1,)), {"x": address, "y": 4, "u": address}, {4: (1, 2)})
                    self.assertIsNone(made.step())
                    self.assertEqual(made.go(7), 0)

    def test_where_a_cell_lay(self):
        for deed in (("read", "u", "x", "first"), ("write", "x", "first", "x"), ("free", "x")):
            made = machine([("free", "x"), deed], {"x": 4}, {4: (1, 2), 5: (4, 4)})
            self.assertEqual(made.go(100), 2)
            self.assertEqual((made.word(), made.where(), made.heap()), ("fall", ("p", (1,)), {5: (4, 4)}))

    def test_a_fall_in_deeds_within_others(self):
        body = [("while", ALWAYS, NOTHING, [("if", NEVER, [], [("set", "u", "y"), ("free", "u")])])]
        made = machine(body, {"y": 4}, {4: (1, 2)})
        self.assertEqual(made.go(100), 8)
        self.assert_stands(made, "fall", ("p", (0, 0, 0, 1, 1)), {"x": 0, "y": 4, "u": 4}, {})

    def test_a_fall_in_a_call(self):
        other = procedure([("set", "v", "a"), ("free", "v"), ("free", "v")], name="q", params=("a",))
        made = machine([("set", "u", "x"), ("call", "", "q", ("u",)), ("set", "u", "nil")], {"x": 4}, {4: (1, 2)},
                       others=[other])
        self.assertEqual(made.go(100), 5)
        self.assert_stands(made, "fall", ("q", (2,)), {"a": 4, "v": 4}, {})
        made.step()
        self.assert_stands(made, "fall", ("q", (2,)), {"a": 4, "v": 4}, {})


class NewTests(MachineMixin, unittest.TestCase):
    """Point 28."""

    def made_by(self, body, heap):
        made = machine(body, {"x": max(heap, default=0)}, heap)
        made.go(100)
        self.assertEqual(made.word(), "end")
        return made.held()["u"]

    def test_addresses(self):
        new = ("new", "u", "nil", "nil")
        for heap in ({}, {1: (0, 0)}, {7: (9, 9), 3: (50, 60)}, {200: (0, 0), 100: (0, 0)}):
            greatest = max(heap, default=0)
            self.assertEqual(self.made_by([new], heap), greatest + 1)
            self.assertEqual(self.made_by([new, new, new], heap), greatest + 3)
            # An address isn't used again.
            self.assertEqual(self.made_by([new, ("free", "u"), new], heap), greatest + 2)
            if heap:
                self.assertEqual(self.made_by([("free", "x"), new], heap), greatest + 1)
                self.assertEqual(self.made_by([new, ("free", "x"), ("free", "u"), new], heap), greatest + 2)

    def test_values_are_no_addresses(self):
        made = machine([("new", "u", "x", "y")], {"x": 500, "y": 600, "u": 700}, {2: (800, 900)})
        made.step()
        self.assertEqual(made.heap(), {2: (800, 900), 3: (500, 600)})

    def test_long_addresses(self):
        great = 10 ** 59 - 1
        made = machine([("new", "u", "x", "nil"), ("write", "x", "second", "u")], {"x": great}, {great: (1, 2)})
        made.go(2)
        self.assertEqual(made.heap(), {great: (1, 10 ** 59), 10 ** 59: (great, 0)})
        self.assertEqual(made.held()["u"], 10 ** 59)

    def test_addresses_over_calls(self):
        maker = procedure([("new", "b", "a", "nil"), ("free", "b"), ("new", "b", "a", "nil")], "q", ("a",), "b")
        body = [("new", "u", "nil", "nil"), ("call", "v", "q", ("u",)), ("new", "w", "v", "u")]
        made = machine(body, {}, {6: (0, 0)}, others=[maker])
        made.go(100)
        self.assert_stands(made, "end", None, {"x": 0, "y": 0, "u": 7, "v": 9, "w": 10},
                           {6: (0, 0), 7: (0, 0), 9: (7, 0), 10: (9, 7)})


class PathTests(MachineMixin, unittest.TestCase):
    """Point 27: machines made at any path."""

    body = [("set", "u", "x"),
            ("while", ("not", "u", "nil"), NOTHING, [
                ("if", ("is", "u", "y"), [("set", "u", "nil")], [("read", "u", "u", "second"), ("if", NEVER, [], [])]),
            ]),
            ("if", ALWAYS, [("set", "u", "y")], [])]

    def test_settled_paths(self):
        for path, stands in (((0,), (0,)), ((1,), (1,)), ((1, 0, 0), (1, 0, 0)), ((1, 0, 1), (1,)),
                             ((1, 0, 0, 0, 0), (1, 0, 0, 0, 0)), ((1, 0, 0, 0, 1), (1,)), ((1, 0, 0, 1, 2), (1,)),
                             ((1, 0, 0, 1, 1, 0, 0), (1,)), ((2, 0, 0), (2, 0, 0))):
            made = machine(self.body, {"x": 1, "y": 2, "u": 3}, {}, path)
            self.assert_stands(made, "on", ("p", stands), {"x": 1, "y": 2, "u": 3}, {})
            self.assertEqual(made.go(0), 0)

    def test_ended_ahead_of_any_step(self):
        for path in ((3,), (2, 0, 1), (2, 1, 0)):
            made = machine(self.body, {"x": 1, "y": 2, "u": 3}, {5: (0, 0)}, path)
            for count in range(2):
                self.assert_stands(made, "end", None, {"x": 1, "y": 2, "u": 3}, {5: (0, 0)})
                self.assertIsNone(made.step())
                self.assertEqual(made.go(9), 0)
        self.assertEqual(machine([], {}, {}).word(), "end")

    def test_it_goes_on_from_there(self):
        made = machine(self.body, {"x": 1, "y": 2, "u": 3}, {3: (0, 2)}, (1, 0, 0, 1, 0))
        # Read, the inner if, the while, the if, set, the while, the last if, set.
        self.assertEqual(made.go(100), 8)
        self.assert_stands(made, "end", None, {"x": 1, "y": 2, "u": 2}, {3: (0, 2)})

    def test_other_names_keep_what_was_handed_in(self):
        made = machine([("set", "u", "v")], {"u": 3, "v": 4}, {}, (1,))
        self.assertEqual(made.held(), {"x": 0, "y": 0, "u": 3, "v": 4})


class CallTests(MachineMixin, unittest.TestCase):
    """Point 27: calls."""

    def test_a_call(self):
        other = procedure([("set", "c", "b"), ("set", "b", "a")], "q", ("a",), "b")
        body = [("set", "u", "x"), ("call", "u", "q", ("u",)), ("set", "v", "u")]
        made = machine(body, {"x": 4, "v": 6}, {2: (1, 1)}, others=[other])
        made.step()
        self.assert_stands(made, "on", ("p", (1,)), {"x": 4, "y": 0, "u": 4, "v": 6}, {2: (1, 1)})
        made.step()
        # Other names than its params are 0 at first.
        self.assert_stands(made, "on", ("q", (0,)), {"a": 4, "b": 0, "c": 0}, {2: (1, 1)})
        made.step()
        self.assert_stands(made, "on", ("q", (1,)), {"a": 4, "b": 0, "c": 0}, {2: (1, 1)})
        made.step()
        self.assert_stands(made, "on", ("p", (2,)), {"x": 4, "y": 0, "u": 4, "v": 6}, {2: (1, 1)})
        made.step()
        self.assert_stands(made, "end", None, {"x": 4, "y": 0, "u": 4, "v": 4}, {2: (1, 1)})

    def test_values_of_a_call(self):
        other = procedure([("new", "d", "b", "c"), ("write", "d", "first", "a")], "q", ("a", "b", "c"))
        made = machine([("call", "", "q", ("y", "nil", "x"))], {"x": 4, "y": 5}, {}, others=[other])
        self.assertEqual(made.go(100), 3)
        self.assert_stands(made, "end", None, {"x": 4, "y": 5}, {1: (5, 4)})

    def test_a_procedure_without_deeds(self):
        other = procedure([], "q", ("a",), "b")
        for body in ([("call", "u", "q", ("x",))], [("call", "u", "q", ("u",)), ("call", "v", "q", ("x",))]):
            made = machine(body, {"x": 4, "u": 5, "v": 6}, {}, others=[other])
            self.assertEqual(made.go(100), len(body))
            self.assertEqual((made.word(), made.held()["u"], made.held().get("v", 0)), ("end", 0, 0))
        made = machine([("call", "", "s", ())], {"x": 4}, {}, others=[procedure([], "s", ())])
        self.assertEqual(made.go(100), 1)
        self.assert_stands(made, "end", None, {"x": 4, "y": 0}, {})

    def test_calls_that_end_together(self):
        inner = procedure([("set", "b", "a")], "s", ("a",), "b")
        outer = procedure([("if", ALWAYS, [("call", "d", "s", ("c",))], [])], "q", ("c",), "d")
        made = machine([("call", "u", "q", ("x",))], {"x": 4}, {}, others=[outer, inner])
        self.assertEqual(made.go(3), 3)
        self.assert_stands(made, "on", ("s", (0,)), {"a": 4, "b": 0}, {})
        self.assertEqual(made.go(9), 1)
        self.assert_stands(made, "end", None, {"x": 4, "y": 0, "u": 4}, {})

    def test_a_call_at_the_end_of_a_while(self):
        other = procedure([("read", "b", "a", "second")], "q", ("a",), "b")
        body = [("while", ("not", "u", "nil"), NOTHING, [("call", "u", "q", ("u",))])]
        made = machine(body, {"u": 1}, {1: (0, 2), 2: (0, 0)}, others=[other])
        made.go(2)
        self.assertEqual(made.where(), ("q", (0,)))
        made.step()
        self.assert_stands(made, "on", ("p", (0,)), {"x": 0, "y": 0, "u": 2}, {1: (0, 2), 2: (0, 0)})
        self.assertEqual(made.go(100), 4)
        self.assertEqual((made.word(), made.held()["u"]), ("end", 0))

    def test_calls_of_itself(self):
        text = ("proc copy x\ngives r\nbefore nothing\nbehind nothing\nif x not nil\nread u x second\ntake r copy u\n"
                "read u x first\nnew r u r\nend\nend")
        heap = {1: (7, 2), 2: (8, 3), 3: (9, 0)}
        made = Machine(read_program(text), "copy", (0,), {"x": 1, "r": 50, "u": 60}, heap)
        self.assertEqual(made.go(100), 3 * 5 + 1)
        self.assert_stands(made, "end", None, {"x": 1, "r": 6, "u": 7}, heap | {4: (9, 0), 5: (8, 4), 6: (7, 5)})

    def test_two_that_call_one_another(self):
        text = ("proc odd x\ngives r\nbefore nothing\nbehind nothing\nif x is nil\nelse\nread u x second\n"
                "take r even u\nend\nend\n"
                "proc even x\ngives r\nbefore nothing\nbehind nothing\nif x is nil\nnew r nil nil\nelse\n"
                "read u x second\ntake r odd u\nend\nend")
        heap = {1: (0, 2), 2: (0, 3), 3: (0, 0)}
        for start, name, found in ((1, "odd", 4), (1, "even", 0), (2, "odd", 0), (2, "even", 4), (0, "odd", 0)):
            made = Machine(read_program(text), name, (0,), {"x": start, "r": 0, "u": 0}, heap)
            made.go(100)
            self.assertEqual((made.word(), made.held()["r"]), ("end", found))

    def test_a_hundred_calls_deep(self):
        text = ("proc deep x\ngives r\nbefore nothing\nbehind nothing\nif x not nil\nread u x second\ntake r deep u\n"
                "else\nnew r nil nil\nend\nend")
        heap = {address: (0, address - 1) for address in range(1, 101)}
        made = Machine(read_program(text), "deep", (0,), {"x": 100, "r": 0, "u": 0}, heap)
        self.assertEqual(made.go(301), 301)
        self.assert_stands(made, "on", ("deep", (0, 1, 0)), {"x": 0, "r": 0, "u": 0}, heap)
        # The last deed brings all of them to their end.
        made.step()
        self.assert_stands(made, "end", None, {"x": 100, "r": 101, "u": 99}, heap | {101: (0, 0)})

    def test_five_thousand_steps(self):
        body = [("while", ALWAYS, NOTHING, [("new", "u", "u", "nil"), ("call", "v", "q", ("u",)), ("free", "u")])]
        made = machine(body, {}, {}, others=[procedure([("set", "b", "a")], "q", ("a",), "b")])
        self.assertEqual(made.go(5000), 5000)
        self.assert_stands(made, "on", ("p", (0,)), {"x": 0, "y": 0, "u": 1000, "v": 1000}, {})


class GoTests(MachineMixin, unittest.TestCase):
    """Point 27: go."""

    def test_how_many_steps(self):
        body = [("set", "u", "x")] * 6
        for most, done in ((0, 0), (1, 1), (5, 5), (6, 6), (7, 6), (5000, 6)):
            made = machine(body, {}, {})
            told = made.go(most)
            self.assertEqual(told, done)
            self.assertIs(type(told), int)
            self.assertEqual(made.where(), ("p", (done,)) if done < 6 else None)
            self.assertEqual(made.go(9), 6 - done)

    def test_a_step_that_falls_is_one_of_them(self):
        made = machine([("set", "u", "x"), ("free", "u"), ("set", "u", "x")], {}, {})
        self.assertEqual(made.go(1), 1)
        self.assertEqual(made.word(), "on")
        self.assertEqual(made.go(1), 1)
        self.assertEqual(made.word(), "fall")
        self.assertEqual(made.go(1), 0)

    def test_as_many_steps(self):
        chance = random.Random(27)
        for count in range(100):
            program = some_program(chance)
            values = dict.fromkeys(names_in(program[0]), 1)
            one = Machine(program, program[0][0], (0,), values, {1: (1, 0)})
            other = Machine(program, program[0][0], (0,), values, {1: (1, 0)})
            most = chance.randint(0, 30)
            done = one.go(most)
            for step in range(done):
                self.assertEqual(other.word(), "on")
                other.step()
            self.assertEqual((one.word(), one.where(), one.held(), one.heap()),
                             (other.word(), other.where(), other.held(), other.heap()))
            self.assertTrue(done == most or one.word() != "on")


class ChanceTests(MachineMixin, unittest.TestCase):
    """Points 27 to 29, on programs by chance."""

    def all_paths(self, deeds, ahead):
        found = [ahead + (number,) for number in range(len(deeds) + 1)]
        for number, deed in enumerate(deeds):
            for side, inner in enumerate({"if": deed[2:], "while": deed[3:]}.get(deed[0], ())):
                found += self.all_paths(inner, ahead + (number, side))
        return found

    def test_programs_by_chance(self):
        chance = random.Random(28)
        seen = {"on": 0, "end": 0, "fall": 0}
        for count in range(1200):
            program = some_program(chance)
            each = chance.choice(program)
            heap = {address: (chance.randint(0, 6), chance.randint(0, 6))
                    for address in range(1, 7) if chance.random() < 0.8}
            values = {name: chance.randint(0, 6) for name in names_in(each)}
            path = chance.choice(self.all_paths(each[5], ()))
            seen[self.assert_like_reference(program, each[0], path, values, heap, 60)] += 1
        self.assertGreater(min(seen.values()), 100, seen)

    def test_settled_paths_are_the_same(self):
        chance = random.Random(29)
        for count in range(200):
            program = some_program(chance)
            values = dict.fromkeys(names_in(program[0]), 3)
            for path in self.all_paths(program[0][5], ()):
                told = Machine(program, program[0][0], path, values, {}).where()
                stands = settled(program[0][5], path)
                self.assertEqual(told, None if stands == (len(program[0][5]),) else (program[0][0], stands))


class OwnTests(MachineMixin, unittest.TestCase):
    """Point 2."""

    text = ("proc p x\nbefore tree x\nbehind nothing\nset u x\nwhile u not nil with stretch u nil\nif u is x\n"
            "read u u second\nelse\ncall q u\nset u nil\nend\nend\nend\n"
            "proc q a\nbefore nothing\nbehind nothing\nif a is a\nwrite a first a\nend\nend")

    def test_nothing_that_is_handed_in_is_changed(self):
        handed = (read_program(self.text), "p", (0,), {"x": 1, "u": 0}, {1: (0, 2), 2: (0, 0)})
        before = copy.deepcopy(handed)
        made = Machine(*handed)
        made.go(100)
        self.assertEqual(handed, before)
        self.assertEqual((made.word(), made.heap()), ("end", {1: (0, 2), 2: (2, 0)}))

    def test_what_is_handed_in_may_be_changed_later(self):
        for steps in range(12):
            program, values, heap = read_program(self.text), {"x": 1, "u": 0}, {1: (0, 2), 2: (0, 0)}
            made = Machine(program, "p", (0,), values, heap)
            other = Machine(read_program(self.text), "p", (0,), dict(values), dict(heap))
            made.go(steps)
            other.go(steps)
            empty(program)
            values.clear()
            heap.clear()
            for count in range(15):
                self.assertEqual((made.word(), made.where(), made.held(), made.heap()),
                                 (other.word(), other.where(), other.held(), other.heap()))
                made.step()
                other.step()
            self.assertEqual(made.word(), "end")

    def test_each_answer_is_the_askers_own(self):
        made = Machine(read_program(self.text), "p", (0,), {"x": 1, "u": 0}, {1: (0, 2), 2: (0, 0)})
        while made.word() == "on":
            before = (made.held(), made.heap())
            made.held().clear()
            made.heap().clear()
            made.held().update({name: 77 for name in before[0]})
            made.heap()[9] = (9, 9)
            self.assertEqual((made.held(), made.heap()), before)
            made.step()
        self.assertEqual((made.word(), made.heap()), ("end", {1: (0, 2), 2: (2, 0)}))

    def test_two_machines_of_one_program(self):
        program = read_program(self.text)
        one = Machine(program, "p", (0,), {"x": 1, "u": 0}, {1: (0, 2), 2: (0, 0)})
        other = Machine(program, "p", (0,), {"x": 0, "u": 0}, {})
        one.go(5)
        self.assertEqual((other.where(), other.held(), other.heap()), (("p", (0,)), {"x": 0, "u": 0}, {}))
        self.assertEqual(other.go(9), 2)


if __name__ == "__main__":
    unittest.main()
