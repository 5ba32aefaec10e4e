import copy
import itertools
import random
import unittest

from apart.covers import fits
from apart.follow import followed
from apart.notes import read_telling, show_telling
from telling_cases import (SIX_NAMES, empty, lists_of, pairs_of, paper_flaw, some_telling, state_flaw, turn_about,
                           with_parts_put_together)

def answer_flaw(answer, one, other):
    if type(answer) is tuple and len(answer) == 2 and answer[0] == "paper":
        return paper_flaw(answer[1], one, other)
    if type(answer) is tuple and len(answer) == 3 and answer[0] == "state":
        flaw = state_flaw(answer[1], answer[2], one, other)
        return "the other one fits" if flaw is None and fits(answer[1], answer[2], other) else flaw
    return "no answer"


FOLLOWS = pairs_of("""
# Facts, by themselves and by what parts make unlike.
nothing => nothing
x is y => y is x
x is y, y is z => z is x, x is x
x not y => y not x
x is y, y not z => z not x
nothing => x is x, nil is nil
x not y => nothing
cell x any any => x not nil, cell x any any
cell x any any, cell y any any => x not y, cell y any any, cell x any any
x not y, stretch x y => x not nil, stretch x y
stretch nil x => x is nil
tree x, tree x => x is nil
stretch x nil, tree x => x is nil
tree x, x not nil, stretch x y => x is y, tree x
cell x any any, stretch x y => cell y any any, x is y
stretch x y, stretch x z, y not z => stretch x y, stretch x z
stretch x y, x not y, stretch y x => y not nil, stretch y x, stretch x y
# Empty parts on either side.
x is nil => tree x
nothing => tree nil, stretch nil nil, stretch x x
tree x => tree x, stretch z z
x is y => stretch x y, stretch y x
x is nil, tree x, stretch nil x => nothing
x is y, stretch x y, tree z => tree z
x is nil, y is nil => stretch x y, tree y, tree x
# Cells.
cell x y z => cell x y z
cell x y z => cell x any z
cell x y z => cell x y any
cell x y z => cell x any any
cell x y any => cell x any any
x is u, y is v, cell x y nil => cell u v nil
cell x y z, y is z => cell x z y
z is nil, cell x z z => cell x nil nil
# Chains of cells and stretches.
x not y, cell x any y => stretch x y
cell x any nil => stretch x nil
cell x any y, stretch y nil => stretch x nil
x not z, cell x any y, stretch y z => stretch x z
cell x any y, cell y any nil => stretch x nil
x not z, y not z, cell x any y, cell y any z => stretch x z
stretch x y, stretch y nil => stretch x nil
stretch x y, cell y any nil => stretch x nil
stretch x y, z not y, cell y any z, cell z u nil => stretch x nil
stretch x y, stretch y z, cell z any any => cell z any any, stretch x z
stretch x y, stretch y z, z not nil, tree z => tree z, stretch x z
stretch x y, stretch y z, tree z => tree z, stretch x z
stretch x y, stretch y z, z not w, stretch z w => stretch x z, stretch z w
stretch x y, stretch y z, stretch z nil => stretch x z, stretch z nil
stretch x y, stretch y z, z is nil => stretch x z
stretch x y, stretch y z, x is z => stretch x y, stretch y x
stretch x y, cell y any z, cell z any x => stretch x z, cell z any x
stretch y z, stretch x y, cell z nil nil => stretch x nil
stretch x y, y is z, stretch z nil => stretch x nil
# Trees.
cell x nil nil => tree x
cell x y z, tree y, tree z => tree x
tree z, tree y, cell x z y => tree x
cell x y nil, tree y => tree x
cell x nil y, cell y z nil, tree z => tree x
tree x, x is y => tree y
cell x y z, cell y u nil, cell z nil v, tree u, tree v => tree x
cell x y y, y is nil => tree x
cell x y z, tree y, z is nil => tree x
cell x y z, tree y, tree z => cell x y z, tree z, tree y
cell x y z, cell y nil nil, tree z, tree u => tree u, tree x
# What clashes.
x not x => tree y
cell x any any, cell x any any => y is z
cell nil any any => cell x x x
cell x any any, tree x => stretch x y
x is nil, x not nil => x is y, cell x any any
x not y, stretch x y, stretch x nil => nothing
""")

NOT_FOLLOWS = pairs_of("""
# Facts.
nothing => x is y
nothing => x not y
nothing => x is nil
nothing => x not nil
x is y => x not y
x not y => x is y
nothing => nil not nil
x not y, y not z => x not z
x not y, y not z => x is z
stretch x y => x not y, stretch x y
tree x => x not nil, tree x
tree x => x is nil
tree x, tree y => x not y, tree x, tree y
# Parts that are left over, or lacking, or at other places.
tree x => nothing
tree x, tree y => tree x
cell x any any => nothing
stretch x y => x is x
nothing => tree x
nothing => stretch x y
nothing => cell x any any
tree x => tree y
stretch x y => stretch y x
tree x => tree x, tree x
cell x any any => cell y any any
cell x any any => cell x any any, cell x any any
tree x => tree x, stretch z w
stretch x y, stretch y x => stretch x x
cell x any any, tree y => cell x any any
# Parts of other kinds.
tree x => stretch x nil
stretch x nil => tree x
stretch x y => cell x any y
x not y, stretch x y => cell x any any
x not nil, tree x => cell x any any
x not nil, tree x => cell x nil nil
x not nil, stretch x nil => cell x any nil
x not nil, tree x => cell x any any, tree y
stretch x nil, x not nil => tree x, x not nil
# Cells.
cell x any z => cell x y z
cell x y any => cell x y z
cell x any any => cell x nil any
cell x y z => cell x z y
cell x y y => cell x y nil
cell x any any => cell x any nil
# Chains, with an end that may be met too early.
cell x any y => stretch x y
cell x any any => stretch x nil
cell x any any => stretch x y
cell x any y, stretch y z => stretch x z
x not z, cell x any y, cell y any z => stretch x z
stretch x y, stretch y z => stretch x z
x not z, y not z, stretch x y, stretch y z => stretch x z
stretch x y, stretch y z, stretch z w => stretch x z, stretch z w
stretch x y, stretch y z, z not nil, cell w any any => stretch x z, cell w any any
stretch x y, cell y any z => stretch x z
stretch x y, cell y any z, cell w any z => stretch x z, cell w any any
stretch x y => stretch x z, stretch z y
stretch x y, x not z, y not z => stretch x z, cell z any y
stretch x y => stretch x z
stretch x nil => stretch x y, stretch y nil
stretch x y, tree y => stretch x nil
x not y, stretch x y, stretch z nil => stretch x nil
# Trees.
cell x any nil => tree x
cell x nil any => tree x
cell x y nil => tree x
cell x y y, tree y => tree x
cell x x nil => tree x
cell x y z, tree y => tree x
cell x y z, tree y, tree z, tree w => tree x
cell x y z, tree y, stretch z nil => tree x
cell x nil y, stretch y nil => tree x
cell x y nil, cell y x nil => tree x
cell x y z, tree y, tree y, tree z => tree z, cell x y nil
""")

# Up to six names together, five parts and six facts each.
GREAT_FOLLOWS = pairs_of("""
stretch x y, stretch y z, stretch z u, stretch u v, stretch v nil => stretch x nil
stretch v nil, stretch z u, stretch x y, stretch u v, stretch y z => stretch x nil
stretch x y, stretch y z, stretch z u, stretch u v, cell v any w => stretch x v, cell v any w
stretch x y, stretch y z, stretch z u, stretch u v, tree v => tree v, stretch x v
stretch x y, stretch z y, stretch u y, stretch v y, stretch w y
    => stretch w y, stretch v y, stretch u y, stretch x y, stretch z y
stretch x y, stretch x z, stretch x u, stretch x v, stretch x w
    => stretch x w, stretch x v, stretch x u, stretch x y, stretch x z
tree x, tree x, tree x, tree x, tree x => x is nil
tree x, tree y, tree z, tree u, tree v, w is nil => tree v, tree u, tree z, tree y, tree x
cell x y z, cell y u v, cell z nil w, tree u, tree v, w is nil => tree x
x is y, z is u, v is w, y not z, u not v, w not x, stretch x z, stretch u v, stretch w y
    => x not u, y not v, stretch y u, stretch z w, stretch v x
x not y, y not z, z not u, u not v, v not w, w not x,
    cell x any y, cell y any z, cell z any u, cell u any v, stretch v nil => stretch x nil
w not x, w not y, w not z, w not u, w not v, cell x any y, cell y any z, cell z any u, cell u any v, cell v any w
    => stretch x w
x is y, y is z, z is u, u is v, v is w, tree x, stretch y w, stretch v nil => w is nil
""")
GREAT_NOT_FOLLOWS = pairs_of("""
stretch x y, stretch y z, stretch z u, stretch u v, stretch v w => stretch x w
stretch x y, stretch y z, stretch z u, stretch u v, tree w => tree w, stretch x v
tree x, tree y, tree z, tree u, tree v, w is nil => tree v, tree u, tree z, tree y, tree w
cell x y z, cell y u v, cell z nil w, tree u, tree v => tree x
x not y, y not z, z not u, u not v, v not w, w not x,
    cell x any y, cell y any z, cell z any u, cell u any v, stretch v w => stretch x w
w not x, w not y, w not z, w not u, cell x any y, cell y any z, cell z any u, cell u any v, cell v any w
    => stretch x w
""")
ALL_PAIRS = FOLLOWS + GREAT_FOLLOWS + NOT_FOLLOWS + GREAT_NOT_FOLLOWS


class FollowMixin:
    def assert_answer(self, one, other, word=None):
        """The answer is right, and of the word if one is told."""
        told = followed(one, other)
        flaw = answer_flaw(told, one, other)
        self.assertIsNone(flaw, (show_telling(one), show_telling(other), told))
        if word is not None:
            self.assertEqual(told[0], word, (show_telling(one), show_telling(other)))
        return told


class CheckerTests(unittest.TestCase):
    """The checker of the papers finds what is wrong with them."""

    def assert_flaw(self, paper, one, other, flaw):
        self.assertEqual(paper_flaw(paper, read_telling(one), read_telling(other)), flaw)

    def test_good_papers(self):
        self.assert_flaw(("clash",), "x not x", "tree y", None)
        self.assert_flaw(("cover", [[0]]), "tree x", "tree x", None)
        self.assert_flaw(("cover", [[1], [0]]), "tree x, tree y", "tree y, tree x", None)
        self.assert_flaw(("cover", [[]]), "stretch x x", "tree nil", None)
        self.assert_flaw(("cover", [[0]]), "stretch x x", "stretch x x", None)
        self.assert_flaw(("cover", [[0, 1]]), "x not nil, stretch x y, stretch y nil", "stretch x nil", None)
        paper = ("split", "x", "nil", ("clash",), ("cover", [[0, 1]]))
        self.assert_flaw(paper, "cell x any y, stretch y nil", "stretch x nil", None)

    def test_papers_that_are_wrong(self):
        self.assert_flaw(("clash",), "tree x", "tree x", "what is said to clash doesn't")
        self.assert_flaw(("cover", [[0]]), "tree x, tree y", "tree x", "a part that stands in no row")
        self.assert_flaw(("cover", [[0], [0]]), "tree x", "tree x, tree x", "a number that stands twice")
        self.assert_flaw(("cover", [[0], []]), "tree x", "tree x", "another number of rows than parts")
        self.assert_flaw(("cover", [[1]]), "tree x", "tree x", "a number of no part")
        self.assert_flaw(("cover", [[0]]), "tree x", "x not nil, tree x", "a fact that isn't known")
        self.assert_flaw(("cover", [[0]]), "tree x", "tree y", "a part that lies elsewhere than the tree")
        self.assert_flaw(("cover", [[0]]), "cell x any nil", "tree x", "a part that is no tree's")
        self.assert_flaw(("cover", [[0]]), "cell x y nil", "tree x", "a tree without a part")
        self.assert_flaw(("cover", [[0, 1]]), "tree x, tree y", "tree x", "a number that is left")
        self.assert_flaw(("cover", [[0]]), "cell x any z", "cell x y z", "another value in the cell")
        self.assert_flaw(("cover", [[0]]), "stretch x y", "cell x any y", "no cell at the place")
        self.assert_flaw(("cover", [[0]]), "cell x any y", "stretch x y", "a part that one can't pass")
        one = "x not z, stretch x y, stretch y z"
        self.assert_flaw(("cover", [[0, 1]]), one, "stretch x z", "a part that one can't pass")
        self.assert_flaw(("cover", [[0]]), "cell x any y", "stretch x nil", "one doesn't stand at the end")
        paper = ("split", "q", "x", ("clash",), ("clash",))
        self.assert_flaw(paper, "x not x", "nothing", "a split by what is no name of the two")
        paper = ("split", "x", "nil", ("clash",), ("clash",))
        self.assert_flaw(paper, "cell x nil nil", "tree x", "what is said to clash doesn't")


class FollowTests(FollowMixin, unittest.TestCase):
    """Points 16 to 20."""

    def test_what_follows(self):
        for one, other in FOLLOWS + GREAT_FOLLOWS:
            with self.subTest(one=one, other=other):
                self.assert_answer(read_telling(one), read_telling(other), "paper")

    def test_what_does_not_follow(self):
        for one, other in NOT_FOLLOWS + GREAT_NOT_FOLLOWS:
            with self.subTest(one=one, other=other):
                self.assert_answer(read_telling(one), read_telling(other), "state")

    def test_a_telling_follows_from_itself(self):
        chance = random.Random(16)
        for pair in ALL_PAIRS:
            for text in pair:
                self.assert_answer(read_telling(text), read_telling(text), "paper")
        for count in range(200):
            telling = some_telling(chance, SIX_NAMES[:chance.randint(1, 6)], 4, 5)
            self.assert_answer(telling, telling, "paper")

    def test_facts_and_parts_turned_about(self):
        chance = random.Random(17)
        for pair in ALL_PAIRS * 3:
            turned = [turn_about(chance, *read_telling(text)) for text in pair]
            self.assert_answer(turned[0], turned[1], "paper" if pair in FOLLOWS + GREAT_FOLLOWS else "state")
        for count in range(200):
            telling = some_telling(chance, SIX_NAMES[:chance.randint(1, 6)], 4, 5)
            self.assert_answer(telling, turn_about(chance, *telling), "paper")

    def test_the_case_of_point_19(self):
        other = read_telling("stretch x z")
        for facts in ("", "x not y, ", "y not z, ", "x not z, y not z, ", "x not nil, y not nil, z not nil, "):
            told = self.assert_answer(read_telling(facts + "stretch x y, stretch y z"), other, "state")
            self.assertGreater(len(told[2]), 0)
        for facts in ("z is nil, ", "y is z, ", "x is y, "):
            self.assert_answer(read_telling(facts + "stretch x y, stretch y z"), other, "paper")

    def test_a_clash_shows_all(self):
        for one in ("x not x", "cell x any any, tree x", "cell nil x y", "cell x any any, x is y, cell y any any"):
            for other in ("nothing", "x is y", "x not x", "cell z any any", "stretch u v, tree w"):
                self.assert_answer(read_telling(one), read_telling(other), "paper")
        # These clash only when they are split.
        for one in ("x not nil, tree x, stretch x y, stretch x z, x not y", "stretch nil x, x not nil"):
            self.assert_answer(read_telling(one), read_telling("y is z, cell x any any"), "paper")

    def test_states_have_values_of_all_names_of_both(self):
        values = self.assert_answer(read_telling("tree x, u not v"), read_telling("tree y, z is w"), "state")[1]
        self.assertEqual(sorted(values), sorted(SIX_NAMES))
        told = self.assert_answer(read_telling("nothing"), read_telling("nil not nil"), "state")
        self.assertEqual(told, ("state", {}, {}))

    def test_names_of_the_other_one_alone(self):
        self.assert_answer(read_telling("tree x"), read_telling("tree x, y is y, stretch z z"), "paper")
        self.assert_answer(read_telling("x is nil"), read_telling("x is nil, y not x"), "state")
        self.assert_answer(read_telling("stretch x nil"), read_telling("stretch x y, stretch y nil"), "state")

    def test_ends_of_stretches_that_lie_amid_others(self):
        # In each of these the other one fits where z lies in no cell, or where it does, and not both.
        ones = ("stretch x y", "stretch x nil", "stretch x y, stretch y nil", "stretch x y, stretch y z",
                "stretch x y, stretch u z")
        others = ("stretch x z, stretch z y", "stretch x z, stretch z nil", "stretch x z", "stretch x y, stretch z nil",
                  "stretch x z, cell z any y", "stretch x z, cell z any nil", "stretch x z, tree z",
                  "stretch x y, cell z any y", "stretch x u, stretch u z")
        for one, other in itertools.product(ones, others):
            self.assert_answer(read_telling(one), read_telling(other), "state")

    def test_tellings_by_chance(self):
        chance = random.Random(18)
        seen = {"paper": 0, "state": 0}
        for count in range(600):
            names = SIX_NAMES[:chance.randint(1, 6)]
            one = some_telling(chance, names, chance.randint(0, 3), chance.randint(0, 5))
            other = some_telling(chance, names, chance.randint(0, 2), chance.randint(0, 5))
            seen[self.assert_answer(one, other)[0]] += 1
        self.assertGreater(min(seen.values()), 50, seen)

    def test_tellings_put_together_by_chance(self):
        chance = random.Random(19)
        seen = {"cover": 0, "split": 0, "clash": 0, "state": 0}
        for count in range(1500):
            names = SIX_NAMES[:chance.randint(2, 6)]
            one = some_telling(chance, names, chance.randint(0, 4), chance.randint(1, 5))
            told = self.assert_answer(one, with_parts_put_together(chance, one))
            seen[told[1][0] if told[0] == "paper" else "state"] += 1
        self.assertGreater(min(seen.values()), 50, seen)

    def test_all_pairs_of_parts(self):
        """Each one or two small parts against each other."""
        words = ("x", "y", "nil")
        parts = [("tree", a) for a in words[:2]] + [("stretch", a, b) for a in words[:2] for b in words]
        parts += [("cell", "x", "any", "nil"), ("cell", "x", "nil", "y"), ("cell", "y", "x", "nil")]
        tellings = [([], list(rows)) for count in (1, 2) for rows in itertools.combinations(parts, count)]
        for one, other in itertools.product(tellings, repeat=2):
            self.assert_answer(one, other)


class SmallHeapTests(FollowMixin, unittest.TestCase):
    """Point 16: what is shown to follow fits whatever small heap the first one fits."""

    def states(self):
        cells = [None] + list(itertools.product(range(4), repeat=2))
        for x, y in itertools.product(range(4), repeat=2):
            for one, two in itertools.product(cells, repeat=2):
                heap = {1: one, 2: two}
                yield ({"x": x, "y": y}, {address: heap[address] for address in heap if heap[address] is not None})

    def test_all_small_heaps(self):
        texts = ("nothing", "x is nil", "stretch x y", "stretch x nil", "stretch nil x", "x not y, stretch x y",
                 "stretch x nil, y not nil", "stretch x y, stretch y nil", "stretch x y, stretch y x",
                 "tree x", "x is y, tree y", "tree x, tree y", "tree y, stretch x x", "stretch y x, tree x",
                 "stretch x nil, tree x", "cell x any y", "cell x any nil", "cell x nil nil", "cell x y any, x not y",
                 "cell x any y, x not y", "cell x y nil, tree y", "cell x y x, tree y", "cell x any y, stretch y x",
                 "cell x any any, stretch x y", "cell y any any, x is y", "cell x nil y, cell y any nil",
                 "cell x any y, cell y any x")
        states = list(self.states())
        fitting = {}
        for text in texts:
            telling = read_telling(text)
            fitting[text] = {k for k, state in enumerate(states) if fits(state[0], state[1], telling)}
        for one, other in itertools.product(texts, repeat=2):
            told = self.assert_answer(read_telling(one), read_telling(other))
            if told[0] == "paper":
                self.assertLessEqual(fitting[one], fitting[other], (one, other))


class OwnTests(FollowMixin, unittest.TestCase):
    """Point 2."""

    def all_pairs(self):
        return [(read_telling(one), read_telling(other)) for one, other in ALL_PAIRS]

    def test_nothing_that_is_handed_in_is_changed(self):
        for handed in self.all_pairs():
            before = copy.deepcopy(handed)
            followed(*handed)
            self.assertEqual(handed, before)

    def test_each_answer_is_the_askers_own(self):
        for one, other in self.all_pairs():
            told = followed(one, other)
            expected = copy.deepcopy(told)
            empty(told)
            self.assert_answer(one, other, expected[0])

    def test_no_list_stands_twice_in_a_paper(self):
        for one, other in self.all_pairs():
            found = lists_of(followed(one, other))
            self.assertEqual(len({id(each) for each in found}), len(found))

    def test_a_later_change_is_seen_in_the_next_answer_alone(self):
        one, other = read_telling("tree x"), read_telling("tree x")
        told = followed(one, other)
        before = copy.deepcopy(told)
        one[1].append(("tree", "y"))
        self.assertEqual(told, before)
        told = self.assert_answer(one, other, "state")
        before = copy.deepcopy(told)
        other[1].append(("tree", "y"))
        self.assertEqual(told, before)
        self.assert_answer(one, other, "paper")


if __name__ == "__main__":
    unittest.main()
