import copy
import itertools
import random
import unittest

from apart.covers import cover, fits
from apart.notes import read_telling, show_telling
from apart.rests import rest, rests
from apart.tellings import names_of
from telling_cases import (SIX_NAMES, empty, lists_of, pairs_of, paper_flaw, some_state, some_telling, state_flaw,
                           turn_about, with_parts_put_together)

# The other telling takes its part of the first one, with parts left over and without.
TAKES = pairs_of("""
nothing => nothing
tree x => nothing
x is y, tree x, stretch y z => x is y
tree x, tree y => tree x
tree x, tree y => tree y
tree x, tree y => tree y, tree x
cell x y z, tree u => cell x any z
cell x y z, tree u, stretch v w => cell x y any, tree u
cell x y z, cell y nil nil, tree z, stretch u v => tree x
cell x y z, tree y => cell x y any
cell x any y, stretch y nil, tree z => stretch x nil
stretch x y, stretch y nil, stretch z u => stretch x nil
stretch x y, stretch y nil, stretch z nil => stretch z nil
stretch x nil, cell y any x => cell y any x, x is x
cell x any any, cell y any any => cell y any any, x not y
cell x any any, cell y any any => x not y
x not nil, tree x => x not nil
stretch x y, stretch y z, cell z any any => stretch x z
stretch x y, stretch y z => stretch x y
x is nil, tree y => tree x
tree x => tree nil, stretch z z
tree x, tree x => x is nil
stretch x y, stretch y z, stretch z u, stretch u v, stretch v nil => stretch z nil
cell x y z, cell y u nil, cell z nil v, tree u, tree v => tree y
# First tellings that clash, at once or when split.
x not x => cell y any any
x not x, tree y => cell x nil nil, y is nil
cell x any any, tree x => x is y
cell nil x y => stretch x nil
x is nil, x not nil => nothing
cell x any any, cell y any nil, x is y => cell x y z
x not nil, tree x, stretch x y, x not y => cell z nil any
""")
# It fits no part of some heap that the first one fits.
TAKES_NOT = pairs_of("""
nothing => x is y
nothing => x not y
nothing => nil not nil
nothing => tree x
nothing => stretch x nil
nothing => cell x nil any
tree x => x is nil
tree x, tree y => x not y
x not y => x is y, tree z
tree x => tree x, tree x
tree x, tree y => cell x any y
tree x => tree y
stretch x nil => tree x
stretch x nil => x not nil, stretch x nil
x not nil, stretch x nil => cell x any nil
x not nil, stretch x nil => cell x nil any
x not nil, tree x => cell x nil any
x not nil, tree x => cell x any nil
cell x any y, tree z => stretch x nil
cell x any any, tree z => cell x any y
cell x any y, stretch y z => stretch x nil
cell x y z, tree y => tree x
cell x y nil, cell y x nil => tree x
cell x y x, cell y x y => stretch x nil
cell x y y, tree y => tree x
stretch x y, stretch y nil => stretch x nil, stretch y nil
cell x any y, cell y any nil => stretch x nil, stretch y nil
stretch x y => stretch x nil
stretch x y, stretch z nil => stretch z nil, x is y
""")
# Here some state shows nothing, and no paper does either.
NEITHER = pairs_of("""
x not nil, stretch x nil => cell x any any
x not nil, tree x => cell x any any
tree x => stretch x nil
stretch x y, stretch y z => stretch x z
""")


def may_be_none(one, other):
    """Whether None may be told of the two (21)."""
    stretches = [part for part in other[1] if part[0] == "stretch"]
    if any(part[2] != "nil" for part in stretches):
        return True
    if any(part[0] == "cell" and part[2:] == ("any", "any") for part in other[1]):
        return True
    return len(stretches) > 0 and any(part[0] == "tree" for part in one[1])


def rest_flaw(answer, one, other):
    """Why the answer to the two is none (21), or None."""
    if answer is None:
        return None if may_be_none(one, other) else "None where a paper or a state is due"
    if type(answer) is tuple and len(answer) == 2 and answer[0] == "paper":
        return paper_flaw(answer[1], one, other, whole=False)
    if type(answer) is tuple and len(answer) == 3 and answer[0] == "state":
        flaw = state_flaw(answer[1], answer[2], one, other)
        return "the other one fits" if flaw is None and cover(answer[1], answer[2], other) is not None else flaw
    return "no answer"


def leaves_of(paper, facts):
    """For each cover of a paper, the first papers ahead, the facts with those put on the way, and its rows."""
    if paper[0] == "split":
        return (leaves_of(paper[3], facts + [("is", paper[1], paper[2])])
                + leaves_of(paper[4], facts + [("not", paper[1], paper[2])]))
    return [(facts, paper[1])] if paper[0] == "cover" else []


def left_over(one, other, paper):
    """The rests of a rest paper as point 21 tells them."""
    told = []
    for facts, rows in leaves_of(paper, list(one[0])):
        taken = sum(rows, [])
        told.append((facts, [part for number, part in enumerate(one[1]) if number not in taken]))
    return told


class RestMixin:
    def assert_answer(self, one, other, word=None):
        told = rest(one, other)
        self.assertIsNone(rest_flaw(told, one, other), (show_telling(one), show_telling(other), told))
        if word is not None:
            self.assertIsNotNone(told, (show_telling(one), show_telling(other)))
            self.assertEqual(told[0], word, (show_telling(one), show_telling(other)))
        return told

    def assert_parts_heap(self, values, heap, one, other, paper):
        """Of what fits the first telling: the other one fits a part, just one rest's facts hold, it fits the rest."""
        rows = cover(values, heap, other)
        self.assertIsNotNone(rows, (show_telling(one), show_telling(other), values, heap))
        others = {address: heap[address] for address in heap if address not in sum(rows, [])}
        holding = [each for each in rests(one, other, paper) if fits(values, {}, (each[0], []))]
        self.assertEqual(len(holding), 1, (show_telling(one), show_telling(other), values, heap))
        self.assertTrue(fits(values, others, holding[0]), (show_telling(one), show_telling(other), values, heap))


class CheckerTests(unittest.TestCase):
    """The checker of rest papers lets parts be left over, and nothing else."""

    def assert_flaw(self, paper, one, other, flaw):
        self.assertEqual(paper_flaw(paper, read_telling(one), read_telling(other), whole=False), flaw)

    def test_papers(self):
        self.assert_flaw(("cover", [[1]]), "tree x, tree y", "tree y", None)
        self.assert_flaw(("cover", []), "tree x, tree y", "nothing", None)
        self.assert_flaw(("cover", [[0]]), "tree x, tree y", "tree y", "a part that lies elsewhere than the tree")
        self.assert_flaw(("cover", [[0], [0]]), "tree x, tree y", "tree x, tree x", "a number that stands twice")
        self.assert_flaw(("cover", []), "tree x", "x not nil", "a fact that isn't known")
        self.assert_flaw(("clash",), "tree x", "nothing", "what is said to clash doesn't")

    def test_none(self):
        for one, other, may_be in (("tree x", "tree x", False), ("tree x", "stretch x nil", True),
                                   ("stretch x y", "stretch x nil", False), ("stretch x y", "stretch x y", True),
                                   ("tree x", "cell x any any", True), ("tree x", "cell x any nil, tree y", False),
                                   ("nothing", "nothing", False), ("tree x", "cell x nil any", False)):
            self.assertEqual(may_be_none(read_telling(one), read_telling(other)), may_be)
        self.assertIsNotNone(rest_flaw(None, read_telling("tree x"), read_telling("tree x")))


class RestTests(RestMixin, unittest.TestCase):
    """Point 21, rest."""

    def test_what_takes_its_part(self):
        for one, other in TAKES:
            with self.subTest(one=one, other=other):
                self.assert_answer(read_telling(one), read_telling(other), "paper")

    def test_what_does_not(self):
        for one, other in TAKES_NOT:
            with self.subTest(one=one, other=other):
                self.assert_answer(read_telling(one), read_telling(other), "state")

    def test_what_has_neither(self):
        # A cover takes whole parts, and all these heaps have the part.
        for one, other in NEITHER:
            with self.subTest(one=one, other=other):
                self.assertIsNone(self.assert_answer(read_telling(one), read_telling(other)))

    def test_turned_about(self):
        chance = random.Random(21)
        for pairs, word in ((TAKES, "paper"), (TAKES_NOT, "state")):
            for pair in pairs * 3:
                turned = [turn_about(chance, *read_telling(text)) for text in pair]
                self.assert_answer(turned[0], turned[1], word)

    def test_a_telling_takes_all_of_itself_and_nothing_takes_none(self):
        chance = random.Random(22)
        for count in range(200):
            telling = some_telling(chance, SIX_NAMES[:chance.randint(1, 6)], 4, 5)
            self.assert_answer(telling, telling, "paper")
            self.assert_answer(telling, ([], []), "paper")

    def test_states_have_values_of_all_names_of_both(self):
        values = self.assert_answer(read_telling("tree x, u not v"), read_telling("tree y, z is w"), "state")[1]
        self.assertEqual(sorted(values), sorted(SIX_NAMES))

    def test_all_small_pairs(self):
        words = ("x", "y", "nil")
        parts = [("tree", a) for a in words[:2]] + [("stretch", a, b) for a in words[:2] for b in words]
        parts += [("cell", "x", "any", "nil"), ("cell", "x", "nil", "y"), ("cell", "y", "x", "nil")]
        tellings = [([], list(rows)) for count in (0, 1, 2) for rows in itertools.combinations(parts, count)]
        for one, other in itertools.product(tellings, repeat=2):
            self.assert_answer(one, other)

    def test_pairs_by_chance(self):
        chance = random.Random(23)
        seen = {"cover": 0, "split": 0, "clash": 0, "state": 0}
        for count in range(2500):
            one, other = some_pair(chance)
            told = self.assert_answer(one, other)
            if told is not None:
                seen[told[1][0] if told[0] == "paper" else "state"] += 1
        self.assertGreater(min(seen.values()), 50, seen)


def some_pair(chance):
    """Two tellings of up to six names, five parts and six facts each; the second often takes a part of the first."""
    names = SIX_NAMES[:chance.randint(1, 6)]
    one = some_telling(chance, names, chance.choice((0, 0, 2, 6)), 5)
    if chance.random() < 0.3:
        return (one, some_telling(chance, names, chance.randint(0, 6), 5))
    facts, parts = with_parts_put_together(chance, one)
    parts = chance.sample(parts, chance.randint(0, len(parts)))
    if chance.random() < 0.5:
        parts = [("stretch", part[1], "nil") if part[0] == "stretch" else part for part in parts]
    return (one, (facts, parts))


class RestsTests(RestMixin, unittest.TestCase):
    """Point 21, rests."""

    def assert_rests(self, one, other, paper, told):
        one, other = read_telling(one), read_telling(other)
        self.assertIsNone(paper_flaw(paper, one, other, whole=False))
        self.assertEqual(rests(one, other, paper), [read_telling(text) for text in told])

    def test_a_cover(self):
        one = "x not y, tree x, cell y any z, stretch z nil, tree u"
        self.assert_rests(one, "nothing", ("cover", []), [one])
        self.assert_rests(one, "tree u", ("cover", [[3]]), ["x not y, tree x, cell y any z, stretch z nil"])
        self.assert_rests(one, "stretch y nil", ("cover", [[1, 2]]), ["x not y, tree x, tree u"])
        self.assert_rests(one, "tree u, stretch y nil, tree x", ("cover", [[3], [1, 2], [0]]), ["x not y"])
        self.assert_rests("x is nil", "tree x", ("cover", [[]]), ["x is nil"])
        # A part that is known to be empty may be taken, or left over.
        self.assert_rests("x is nil, tree x", "tree x", ("cover", [[]]), ["x is nil, tree x"])
        self.assert_rests("stretch x x, tree y", "stretch x x", ("cover", [[0]]), ["tree y"])

    def test_a_clash_has_no_rest(self):
        self.assert_rests("x not x", "tree y", ("clash",), [])
        self.assert_rests("cell x any any, tree y", "tree y", ("split", "x", "nil", ("clash",), ("cover", [[1]])),
                          ["x not nil, cell x any any"])
        self.assert_rests("cell x any any, tree y", "tree y", ("split", "x", "y", ("split", "y", "nil", ("clash",),
                          ("clash",)), ("cover", [[1]])), ["x not y, cell x any any"])

    def test_splits(self):
        paper = ("split", "x", "z", ("cover", [[0]]), ("cover", [[0]]))
        self.assert_rests("tree x, stretch z nil", "tree x", paper,
                          ["x is z, stretch z nil", "x not z, stretch z nil"])
        # A cover need not take the same parts everywhere.
        paper = ("split", "x", "nil", ("cover", [[]]), ("cover", [[0]]))
        self.assert_rests("y not z, tree x, tree y", "tree x", paper,
                          ["y not z, x is nil, tree x, tree y", "y not z, x not nil, tree y"])
        paper = ("split", "x", "y",
                 ("split", "y", "nil", ("cover", [[]]), ("clash",)),
                 ("split", "nil", "x", ("cover", [[]]), ("split", "y", "y", ("cover", [[0]]), ("clash",))))
        self.assert_rests("y is y, tree x, tree y", "tree x", paper, [
            "y is y, x is y, y is nil, tree x, tree y",
            "y is y, x not y, nil is x, tree x, tree y",
            "y is y, x not y, nil not x, y is y, tree y",
        ])

    def test_papers_that_are_told(self):
        chance = random.Random(24)
        seen = 0
        for count in range(1500):
            one, other = some_pair(chance)
            told = rest(one, other)
            if told is not None and told[0] == "paper":
                answer = rests(one, other, told[1])
                self.assertEqual(answer, left_over(one, other, told[1]))
                self.assertTrue(all(type(each) is tuple and type(each[0]) is type(each[1]) is list for each in answer))
                seen += len(told[1]) == 5
        self.assertGreater(seen, 50)

    def test_deep_splits(self):
        words = SIX_NAMES + ("nil",)
        paper = ("cover", [])
        facts = []
        for a, b in itertools.combinations(words, 2):
            paper = ("split", a, b, paper, ("clash",))
            facts.insert(0, ("is", a, b))
        one = ([("is", a, "nil") for a in SIX_NAMES], [("tree", "x")])
        self.assertIsNone(paper_flaw(paper, one, ([], []), whole=False))
        self.assertEqual(rests(one, ([], []), paper), [(one[0] + facts, one[1])])


class HeapTests(RestMixin, unittest.TestCase):
    """Point 21: what is taken and what is left over are together the whole heap."""

    def test_heaps_by_chance(self):
        chance = random.Random(25)
        seen = 0
        for count in range(3000):
            one, other = some_pair(chance)
            told = rest(one, other)
            if told is None or told[0] == "state" or told[1] == ("clash",):
                continue
            for trial in range(5):
                state = some_state(chance, one, SIX_NAMES)
                if state is not None:
                    self.assert_parts_heap(state[0], state[1], one, other, told[1])
                    seen += len(state[1]) > 2
        self.assertGreater(seen, 500)

    def test_heaps_of_some_pairs(self):
        chance = random.Random(26)
        seen = 0
        for texts in TAKES * 30:
            one, other = [read_telling(text) for text in texts]
            state = some_state(chance, one, sorted(set(names_of(one)) | set(names_of(other))))
            if state is not None:
                self.assert_parts_heap(state[0], state[1], one, other, rest(one, other)[1])
                seen += 1
        self.assertGreater(seen, 400)


class OwnTests(RestMixin, unittest.TestCase):
    """Point 2."""

    def all_pairs(self):
        return [(read_telling(one), read_telling(other)) for one, other in TAKES + TAKES_NOT]

    def test_nothing_that_is_handed_in_is_changed(self):
        for handed in self.all_pairs():
            before = copy.deepcopy(handed)
            told = rest(*handed)
            self.assertEqual(handed, before)
            if told[0] == "paper":
                paper = copy.deepcopy(told[1])
                rests(handed[0], handed[1], told[1])
                self.assertEqual(handed, before)
                self.assertEqual(told[1], paper)

    def test_each_answer_is_the_askers_own(self):
        for one, other in self.all_pairs():
            told = rest(one, other)
            word, paper = told[0], copy.deepcopy(told[1])
            empty(told)
            self.assert_answer(one, other, word)
            if word == "paper":
                left = rests(one, other, paper)
                expected = copy.deepcopy(left)
                handed = copy.deepcopy((one, other, paper))
                empty(left)
                self.assertEqual((one, other, paper), handed)
                self.assertEqual(rests(one, other, paper), expected)

    def test_no_list_stands_twice(self):
        for one, other in self.all_pairs():
            told = rest(one, other)
            found = lists_of(told)
            if told[0] == "paper":
                found += lists_of(rests(one, other, told[1])) + lists_of(one) + lists_of(other)
            self.assertEqual(len({id(each) for each in found}), len(found))


if __name__ == "__main__":
    unittest.main()
