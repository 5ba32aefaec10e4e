import copy
import itertools
import random
import unittest

from apart.covers import cover, fits
from apart.examples import example
from apart.known import clashes, open_pair
from apart.notes import read_telling
from apart.tellings import names_of
from telling_cases import Reference, some_telling

SIX_NAMES = ("x", "y", "z", "u", "v", "w")

READY = (
    "nothing", "x is y", "x not y", "x is nil", "x is y, y not z, z is u, v is nil",
    "cell x any any", "cell x y z", "cell x x x", "cell x nil nil", "cell x y any, cell y any x", "x is y, cell x y y",
    "cell x any nil, y is nil, z not x",
    "stretch x y", "stretch x nil", "stretch x x", "stretch nil nil", "x not y, stretch x y", "x is nil, stretch nil x",
    "stretch x y, stretch y z, stretch z nil", "stretch x y, stretch y x", "stretch x y, cell y any x, stretch z y",
    "stretch x z, stretch y z", "stretch x y, tree y", "stretch x y, stretch z x", "x is y, stretch x y, stretch y z",
    "tree x", "tree nil", "x not nil, tree x", "x is nil, tree x, tree x", "tree x, tree y",
    "cell x y z, tree y, tree z",
    "stretch x nil, tree y, cell z any any, cell u x y, cell v v any",
    "y is x, u is v, cell y u any, stretch v x, tree z, w not nil",
)


def telling_that_is_ready(chance):
    """A telling by chance, gone on with by open pairs until it is ready; None where it clashes."""
    names = SIX_NAMES[:chance.randint(1, 6)]
    facts, parts = some_telling(chance, names, chance.randint(0, 4), chance.randint(0, 5))
    while not clashes(facts, parts):
        pair = open_pair(facts, parts)
        if pair is None:
            return (facts, parts)
        facts = facts + [(chance.choice(("is", "not")),) + pair]
    return None


class ExampleMixin:
    def assert_example(self, facts, parts, names):
        told = example(facts, parts, names)
        self.assertIs(type(told), tuple)
        self.assertEqual([type(each) for each in told], [dict, dict])
        values, heap = told
        self.assertEqual(sorted(values), sorted(set(names_of((facts, parts))) | set(names)))
        self.assert_numbers(values, heap)
        self.assertIs(fits(values, heap, (facts, parts)), True, (facts, parts, told))
        reference = Reference(facts, parts, names)
        numbers = dict(values, nil=0)
        for a, b in itertools.product(numbers, repeat=2):
            self.assertEqual(numbers[a] == numbers[b], reference.alike(a, b), (facts, parts, told, a, b))
        return told

    def assert_numbers(self, values, heap):
        for number in list(values.values()) + sum(map(list, heap.values()), []):
            self.assertIs(type(number), int)
            self.assertTrue(0 <= number < 10 ** 60)
        for address, cell in heap.items():
            self.assertIs(type(address), int)
            self.assertTrue(1 <= address < 10 ** 60)
            self.assertIs(type(cell), tuple)
            self.assertEqual(len(cell), 2)
        self.assertLessEqual(len(heap), 200)


class ExampleTests(ExampleMixin, unittest.TestCase):
    """Point 15."""

    def test_what_is_ready(self):
        for text in READY:
            for names in ([], ["x"], ["q"], ["q", "x", "r", "z"], ["nilx", "q", "q"]):
                with self.subTest(text=text, names=names):
                    facts, parts = read_telling(text)
                    self.assertIsNone(open_pair(facts, parts))
                    self.assert_example(facts, parts, names)

    def test_all_names_are_there(self):
        values, heap = self.assert_example([("not", "x", "y")], [("tree", "z")], ["w"])
        self.assertEqual(sorted(values), ["w", "x", "y", "z"])
        self.assertEqual(self.assert_example([], [], []), ({}, {}))
        self.assertEqual(list(self.assert_example([], [], ["q"])[0]), ["q"])

    def test_names_beside_are_unlike_to_all(self):
        values, heap = self.assert_example([("is", "x", "nil")], [("cell", "y", "any", "nil")], ["q", "r"])
        self.assertEqual(len({values["x"], values["y"], values["q"], values["r"]}), 4)
        self.assertNotIn(0, (values["q"], values["r"], values["y"]))

    def test_a_name_alike_to_nil_is_nought(self):
        for facts in ([("is", "x", "nil")], [("is", "nil", "x")], [("is", "x", "y"), ("is", "nil", "y")]):
            self.assertEqual(self.assert_example(facts, [], [])[0]["x"], 0)

    def test_cells_with_any(self):
        for first, second in itertools.product(("any", "nil", "x", "y"), repeat=2):
            values, heap = self.assert_example([], [("cell", "x", first, second)], [])
            self.assertEqual(list(heap), [values["x"]])

    def test_parts_that_may_be_empty_are_full_where_their_ends_are_not_alike(self):
        for text in ("stretch x y", "tree x", "stretch x nil, stretch y x"):
            facts, parts = read_telling(text)
            values, heap = self.assert_example(facts, parts, [])
            rows = cover(values, heap, (facts, parts))
            self.assertTrue(all(rows), text)

    def test_six_parts_and_eight_names(self):
        text = ("a is b, c not nil, e not f, a not h, "
                "cell a any b, cell c nil any, stretch e f, tree g, stretch h nil, stretch f d")
        facts, parts = read_telling(text)
        self.assertEqual(len(names_of((facts, parts))), 8)
        self.assert_example(facts, parts, ["q"])

    def test_forty_facts(self):
        facts = [("is", "a", "b"), ("not", "c", "nil"), ("is", "b", "d"), ("not", "c", "a")] * 10
        values, heap = self.assert_example(facts, [("stretch", "c", "a"), ("tree", "e")], [])
        self.assertEqual(values["a"], values["d"])

    def test_by_chance(self):
        chance = random.Random(15)
        seen = 0
        for count in range(600):
            telling = telling_that_is_ready(chance)
            if telling is not None:
                seen += 1
                self.assert_example(telling[0], telling[1], chance.sample(["q", "x", "w", "r"], chance.randint(0, 3)))
        self.assertGreater(seen, 100)


class OwnTests(ExampleMixin, unittest.TestCase):
    """Point 2."""

    def test_nothing_that_is_handed_in_is_changed(self):
        for text in READY:
            facts, parts = read_telling(text)
            names = ["q", "x", "q"]
            before = copy.deepcopy((facts, parts, names))
            example(facts, parts, names)
            self.assertEqual((facts, parts, names), before)

    def test_each_example_is_the_askers_own(self):
        for text in READY:
            with self.subTest(text=text):
                facts, parts = read_telling(text)
                names = ["q"]
                values, heap = example(facts, parts, names)
                names.append("late")
                self.assertNotIn("late", values)
                names.pop()
                values.clear()
                heap.clear()
                heap[5] = (5, 5)
                self.assert_example(facts, parts, names)

    def test_a_later_change_is_seen_in_the_next_answer_alone(self):
        facts, parts, names = [("not", "x", "nil")], [("tree", "x")], []
        told = example(facts, parts, names)
        before = copy.deepcopy(told)
        parts.append(("cell", "y", "x", "any"))
        facts.clear()
        names.append("z")
        self.assertEqual(told, before)
        self.assertEqual(sorted(self.assert_example(facts, parts, names)[0]), ["x", "y", "z"])


if __name__ == "__main__":
    unittest.main()
