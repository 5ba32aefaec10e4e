import copy
import itertools
import random
import unittest

from apart.known import clashes, known, open_pair
from apart.notes import read_telling
from apart.tellings import names_of
from telling_cases import Reference, forty_facts, some_telling

SIX_NAMES = ("x", "y", "z", "u", "v", "w")


def tellings_by_chance(seed, count):
    chance = random.Random(seed)
    for number in range(count):
        names = SIX_NAMES[:chance.randint(1, 6)]
        yield some_telling(chance, names, chance.randint(0, 6), chance.randint(0, 5))


class KnownMixin:
    def assert_known(self, text, a, b, word):
        """The word is known of a and b, and of b and a, of what doesn't clash."""
        facts, parts = read_telling(text) if type(text) is str else text
        self.assertIs(clashes(facts, parts), False, text)
        self.assertEqual(known(facts, parts, a, b), word, (text, a, b))
        self.assertEqual(known(facts, parts, b, a), word, (text, b, a))

    def assert_clash(self, text, answer=True):
        facts, parts = read_telling(text) if type(text) is str else text
        self.assertIs(clashes(facts, parts), answer, text)
        self.assertIs(clashes(facts[::-1], parts[::-1]), answer, text)


class AlikeTests(KnownMixin, unittest.TestCase):
    """Point 12: alike."""

    def test_each_to_itself(self):
        for word in ("x", "y", "nil", "nowhere"):
            for text in ("nothing", "x is y", "x not y", "tree x", "x not nil, cell x any nil, stretch y nil"):
                self.assert_known(text, word, word, "is")

    def test_by_a_fact_in_either_order(self):
        self.assert_known("x is y", "x", "y", "is")
        self.assert_known("nil is y", "y", "nil", "is")
        self.assert_known("y is nil", "y", "nil", "is")

    def test_by_chains_in_either_order(self):
        for order in itertools.permutations((("a", "b"), ("c", "b"), ("c", "d"), ("e", "d"))):
            for turned in (False, True):
                facts = [("is",) + (pair[::-1] if turned else pair) for pair in order]
                for a, b in itertools.combinations("abcde", 2):
                    self.assert_known((facts, []), a, b, "is")
                self.assert_known((facts, []), "a", "nil", "")
                self.assert_known((facts, []), "e", "f", "")

    def test_two_chains_stay_two(self):
        text = "a is b, c is d, b is e, d is f"
        for a, b in itertools.product("abe", "cdf"):
            self.assert_known(text, a, b, "")
        for a, b in list(itertools.combinations("abe", 2)) + list(itertools.combinations("cdf", 2)):
            self.assert_known(text, a, b, "is")

    def test_two_chains_that_are_joined_by_their_last_ones(self):
        text = "a is b, b is c, d is e, e is f, c is f"
        for a, b in itertools.combinations("abcdef", 2):
            self.assert_known(text, a, b, "is")

    def test_through_nil(self):
        self.assert_known("x is nil, nil is y", "x", "y", "is")

    def test_nothing_is_alike_by_parts(self):
        for text in ("stretch x y", "tree x", "cell x y y", "stretch x nil", "cell x y z, cell y z nil"):
            for a, b in itertools.combinations(["x", "y", "z", "nil"], 2):
                facts, parts = read_telling(text)
                self.assertNotEqual(known(facts, parts, a, b), "is")

    def test_names_that_no_fact_has(self):
        self.assert_known("x is y", "x", "w", "")
        self.assert_known("x is y", "v", "w", "")
        self.assert_known("nothing", "x", "nil", "")
        self.assert_known("x not nil", "v", "nil", "")
        self.assert_known("cell x any any", "w", "x", "")

    def test_forty_facts(self):
        facts = [fact for fact in forty_facts() if fact[0] == "is"] * 2
        self.assertEqual(len(facts), 40)
        self.assert_known((facts, []), "a", "h", "is")
        self.assert_known((facts, []), "a", "nil", "")
        self.assert_known((facts[:38] + [("is", "nil", "h"), ("not", "q", "c")], []), "a", "nil", "is")
        self.assert_known((facts[:38] + [("is", "nil", "h"), ("not", "q", "c")], []), "q", "nil", "not")


class UnlikeTests(KnownMixin, unittest.TestCase):
    """Point 12: unlike, full and empty."""

    def test_by_a_fact(self):
        self.assert_known("x not y", "x", "y", "not")
        self.assert_known("x not nil", "x", "nil", "not")
        self.assert_known("nil not x", "x", "nil", "not")
        self.assert_known("x not y", "x", "z", "")
        self.assert_known("x not y", "x", "nil", "")

    def test_not_in_chains(self):
        self.assert_known("x not y, y not z", "x", "z", "")
        self.assert_known("x not nil, y not nil", "x", "y", "")

    def test_by_a_fact_and_chains_on_both_sides(self):
        text = "a is b, b is c, c not d, d is e, e is f"
        for a, b in itertools.product("abc", "def"):
            self.assert_known(text, a, b, "not")
        self.assert_known("c not d, a is b, b is c, e is f, d is e", "a", "f", "not")
        self.assert_known("x not nil, y is x", "y", "nil", "not")
        self.assert_known("x not y, y is nil", "x", "nil", "not")

    def test_the_place_of_a_full_part_and_nil(self):
        self.assert_known("cell x any any", "x", "nil", "not")
        self.assert_known("cell x y z", "y", "nil", "")
        self.assert_known("cell x y z", "z", "nil", "")
        self.assert_known("cell x any any, y is x", "y", "nil", "not")
        self.assert_known("cell x any any, y is nil", "y", "x", "not")
        self.assert_known("x not y, stretch x y", "x", "nil", "not")
        self.assert_known("x not y, stretch x y", "y", "nil", "")
        self.assert_known("x not nil, stretch x nil", "x", "nil", "not")
        self.assert_known("x not nil, tree x", "x", "nil", "not")

    def test_what_is_not_known_to_be_full_makes_nothing_unlike(self):
        for part in ("stretch x y", "stretch x nil", "tree x"):
            for a, b in itertools.combinations(["x", "y", "z", "nil"], 2):
                self.assert_known(part, a, b, "")
        self.assert_known("stretch x y, cell z any any", "x", "z", "")
        self.assert_known("tree x, cell z any any", "x", "z", "")
        self.assert_known("x not nil, stretch x y, cell z any any", "x", "z", "")
        self.assert_known("x not y, tree x, cell z any any", "x", "z", "")

    def test_places_of_two_full_parts(self):
        kinds = ("cell {} any any", "{} not {}1, stretch {} {}1", "{} not nil, stretch {} nil", "{} not nil, tree {}")
        for one, other in itertools.product(kinds, repeat=2):
            text = one.replace("{}", "x") + ", " + other.replace("{}", "y")
            with self.subTest(text=text):
                self.assert_known(text, "x", "y", "not")
                self.assert_known(text + ", a is x, y is b", "a", "b", "not")
                self.assert_known(text, "x", "z", "")

    def test_the_place_of_a_stretch_is_its_first_end(self):
        self.assert_known("x not y, stretch x y, cell z any any", "x", "z", "not")
        self.assert_known("x not y, stretch x y, cell z any any", "y", "z", "")
        self.assert_known("x not y, stretch x y", "y", "nil", "")

    def test_two_parts_by_their_numbers(self):
        self.assert_known("cell x any any", "x", "x", "is")
        self.assert_clash("cell x any any, cell x any any")
        self.assert_clash("x is y, cell x any any, cell y any any")

    def test_empty_parts_make_nothing_unlike(self):
        self.assert_known("x is y, stretch x y, cell z any any", "x", "z", "")
        self.assert_known("stretch x x", "x", "nil", "")
        self.assert_known("x is y, stretch x y", "x", "nil", "")
        self.assert_known("x is nil, tree x", "x", "nil", "is")
        self.assert_known("stretch nil nil, tree nil", "x", "nil", "")


class ClashTests(KnownMixin, unittest.TestCase):
    """Point 13."""

    def test_two_that_are_alike_and_unlike(self):
        for text in ("x not x", "nil not nil", "x is y, x not y", "x is y, y not x", "x not y, y is x",
                     "x is nil, x not nil", "nil not x, nil is x", "a is b, c is b, c is d, d not a",
                     "d not a, a is b, c is d, b is c", "x is nil, nil is y, y not x"):
            self.assert_clash(text)

    def test_a_full_parts_place_that_is_nil(self):
        for text in ("cell nil any any", "cell nil x y", "x is nil, cell x any any", "x is y, nil is y, cell x y y",
                     "nil not y, stretch nil y", "x is nil, x not y, stretch x y", "x is nil, z not x, stretch x z",
                     "x is nil, x not nil, tree x", "nil not nil, tree nil", "nil not nil, stretch nil nil"):
            self.assert_clash(text)

    def test_two_full_parts_at_one_place(self):
        kinds = ("cell x any any", "x not y, stretch x y", "x not nil, stretch x nil", "x not nil, tree x")
        for one, other in itertools.product(kinds, repeat=2):
            self.assert_clash(one + ", " + other)
            self.assert_clash(one + ", " + other.replace("x", "z") + ", x is z")
            self.assert_clash(one + ", " + other.replace("x", "z") + ", x is v, z is v")
            self.assert_clash(one + ", " + other.replace("x", "z"), False)

    def test_what_becomes_full_only_by_what_became_unlike(self):
        # The first full part makes its place unlike to nil, or to another one's, and so the last part full.
        for text in ("cell x any any, tree x", "cell x any any, stretch x nil", "cell y any any, stretch nil y",
                     "cell x any any, z is nil, stretch x z", "cell x any any, y is x, tree y",
                     "cell x any any, cell y any any, stretch x y", "cell x any any, cell y any any, stretch y x",
                     "x not y, stretch x y, tree x", "x not y, stretch x y, stretch x nil",
                     "x not nil, tree x, cell y any any, stretch x y", "x not y, stretch x y, stretch nil x",
                     "x not z, stretch x z, y not nil, tree y, stretch x y",
                     "x not z, stretch x z, y not nil, tree y, u is x, v is y, stretch v u"):
            self.assert_clash(text)

    def test_what_becomes_full_in_several_turns(self):
        # The stretch is full only by both cells, the tree by each of the three.
        facts, parts = read_telling("cell x any any, cell y any any, z is y, stretch z x, tree z")
        for order in itertools.permutations(parts):
            self.assert_clash((facts, list(order)))

    def test_what_does_not_clash(self):
        for text in ("nothing", "x is y", "x not y", "x is x", "x is nil", "x is y, y not z", "cell x x x",
                     "cell x any any, cell y any any", "tree x, tree x", "stretch x y, stretch x y",
                     "stretch x y, tree x", "cell x any any, stretch x y", "x is nil, tree x, tree x, stretch nil x",
                     "stretch nil nil, stretch nil nil", "stretch x nil, stretch x nil", "stretch nil y",
                     "cell x any any, stretch x x", "cell x any any, tree nil, stretch x x, stretch nil nil",
                     "x not nil, stretch x y, stretch x y", "x not y, tree x, cell z any any",
                     "x not y, tree x, x is nil",
                     "x not y, stretch x y, cell y any any", "x not nil, tree x, stretch x x",
                     "cell x any any, stretch y x, y is x", "cell x any any, stretch y x"):
            self.assert_clash(text, False)

    def test_a_name_that_two_facts_part_from_nil_and_a_third(self):
        self.assert_clash("x not nil, y not nil, x is y", False)
        self.assert_clash("x not y, y not z, x is z", False)

    def test_truths_are_told(self):
        self.assertIs(clashes([], []), False)
        self.assertIs(clashes([("not", "x", "x")], []), True)

    def test_forty_facts(self):
        facts = forty_facts()
        self.assertIs(clashes(facts, []), False)
        for place in (0, 20, 39):
            self.assertIs(clashes(facts[:place] + [("not", "h", "a")] + facts[place + 1:], []), True)


class OpenTests(KnownMixin, unittest.TestCase):
    """Point 14."""

    def assert_ready(self, text):
        facts, parts = read_telling(text)
        self.assertIs(clashes(facts, parts), False, text)
        self.assertIsNone(open_pair(facts, parts), text)

    def assert_open(self, text, *pairs):
        facts, parts = read_telling(text)
        self.assertIs(clashes(facts, parts), False, text)
        told = open_pair(facts, parts)
        self.assertIs(type(told), tuple, text)
        self.assertIn(told, pairs + tuple(pair[::-1] for pair in pairs), text)
        self.assertEqual(known(facts, parts, told[0], told[1]), "")

    def test_what_is_ready(self):
        for text in ("nothing", "x not y, u is v", "cell x any any", "stretch x y", "tree x", "stretch x nil",
                     "tree x, tree y", "stretch x y, tree y", "cell x y z, stretch y z, tree z", "stretch x x",
                     "stretch nil nil", "tree nil", "tree nil, stretch nil nil, tree nil", "x is nil, tree x, tree x",
                     "cell x any any, stretch x x", "cell x any any, y is x, stretch y x, tree y1",
                     "stretch x x, stretch x x, tree x", "x is y, stretch x y, stretch y x, stretch x z",
                     "cell x y any, cell y x any", "stretch x y, stretch y x"):
            self.assert_ready(text)

    def test_two_parts_at_one_place(self):
        self.assert_open("tree x, tree x", ("x", "nil"))
        self.assert_open("tree x, x is y, tree y", ("x", "nil"), ("y", "nil"))
        self.assert_open("stretch x y, stretch x z", ("x", "y"), ("x", "z"))
        self.assert_open("stretch x y, stretch x y", ("x", "y"))
        self.assert_open("stretch x y, tree x", ("x", "y"), ("x", "nil"))
        self.assert_open("stretch x y, u is x, u is v, tree v", ("x", "y"), ("v", "nil"))
        self.assert_open("tree x, stretch x nil", ("x", "nil"))

    def test_a_full_part_and_another_one_at_one_place(self):
        self.assert_open("cell x any any, stretch x y", ("x", "y"))
        self.assert_open("stretch x y, cell x any any", ("x", "y"))
        self.assert_open("x not nil, tree x, stretch x y", ("x", "y"))
        self.assert_open("x not z, stretch x z, stretch x y", ("x", "y"))
        self.assert_open("cell u any any, u is v, v is x, stretch x y", ("x", "y"))

    def test_a_part_at_nil(self):
        self.assert_open("stretch nil x", ("nil", "x"))
        self.assert_open("y is nil, stretch y x", ("y", "x"))
        self.assert_open("cell z any any, stretch nil x", ("nil", "x"))
        self.assert_open("stretch nil x, stretch nil y", ("nil", "x"), ("nil", "y"))

    def test_parts_that_share_nothing_are_not_told(self):
        self.assert_open("tree u, stretch v w, stretch nil x, tree z", ("nil", "x"))
        self.assert_open("tree u, stretch v w, tree x, tree z, tree x", ("x", "nil"))
        self.assert_open("stretch x x, tree u, tree x, stretch x z", ("x", "nil"), ("x", "z"))

    def go_on(self, facts, parts):
        """How many ways there are on to clashes and to what is ready."""
        reference = Reference(facts, parts, [])
        self.assertEqual(clashes(facts, parts), reference.clash())
        if reference.clash():
            return (1, 0)
        told = open_pair(facts, parts)
        self.assertEqual(told is None, reference.ready(), (facts, parts))
        if told is None:
            return (0, 1)
        self.assertIs(type(told), tuple)
        self.assertIn(told, reference.open_pairs())
        ways = [self.go_on(facts + [(word,) + told], parts) for word in ("is", "not")]
        return (ways[0][0] + ways[1][0], ways[0][1] + ways[1][1])

    def test_going_on_until_it_clashes_or_is_ready(self):
        self.assertEqual(self.go_on([], [("tree", "x"), ("tree", "x")]), (1, 1))
        self.assertEqual(self.go_on([], [("stretch", "nil", "x")]), (1, 1))
        self.assertEqual(self.go_on([], [("cell", "x", "any", "any"), ("stretch", "x", "nil")]), (1, 0))
        five = [("stretch", "x", end) for end in ("y", "z", "u", "v", "w")]
        clashed, readied = self.go_on([], five)
        # One of the five at most is full; where four are empty, nothing asks whether the last one is.
        self.assertEqual(readied, 5)
        self.assertGreater(clashed, 0)

    def test_going_on_by_chance(self):
        for facts, parts in tellings_by_chance(14, 400):
            self.go_on(facts, parts)

    def test_not_between_nil_and_a_stretchs_end_clashes(self):
        facts, parts = read_telling("stretch nil x")
        told = open_pair(facts, parts)
        self.assertIs(clashes([("not",) + told], parts), True)
        self.assertIs(clashes([("is",) + told], parts), False)
        self.assertIsNone(open_pair([("is",) + told], parts))


class ChanceTests(unittest.TestCase):
    """Points 12 to 14, as found by trying all pairs."""

    def test_by_chance(self):
        seen = {"clash": 0, "open": 0, "ready": 0}
        for facts, parts in tellings_by_chance(12, 500):
            reference = Reference(facts, parts, ["q"])
            self.assertIs(clashes(facts, parts), reference.clash(), (facts, parts))
            if reference.clash():
                seen["clash"] += 1
                continue
            for a, b in reference.pairs:
                word = "is" if reference.alike(a, b) else "not" if reference.unlike(a, b) else ""
                self.assertEqual(known(facts, parts, a, b), word, (facts, parts, a, b))
            told = open_pair(facts, parts)
            self.assertEqual(told is None, reference.ready(), (facts, parts))
            self.assertTrue(told is None or told in reference.open_pairs(), (facts, parts, told))
            seen["ready" if told is None else "open"] += 1
        self.assertGreater(min(seen.values()), 20, seen)

    def test_facts_and_parts_turned_about(self):
        chance = random.Random(13)
        for facts, parts in tellings_by_chance(15, 150):
            turned = [(word, b, a) for word, a, b in chance.sample(facts, len(facts))]
            mixed = chance.sample(parts, len(parts))
            self.assertEqual(clashes(turned, mixed), clashes(facts, parts))
            if not clashes(facts, parts):
                self.assertEqual(open_pair(turned, mixed) is None, open_pair(facts, parts) is None)
                for a, b in itertools.product(names_of((facts, parts)) + ["nil"], repeat=2):
                    self.assertEqual(known(turned, mixed, a, b), known(facts, parts, a, b))


class OwnTests(unittest.TestCase):
    """Point 2."""

    def test_nothing_that_is_handed_in_is_changed(self):
        for facts, parts in itertools.chain(tellings_by_chance(2, 60), [([], [])]):
            before = copy.deepcopy((facts, parts))
            clash = clashes(facts, parts)
            known(facts, parts, "x", "nil")
            if not clash:
                open_pair(facts, parts)
            self.assertEqual((facts, parts), before)

    def test_a_later_change_is_seen_in_the_next_answer(self):
        facts, parts = [], [("tree", "x"), ("tree", "x")]
        told = open_pair(facts, parts)
        self.assertEqual(known(facts, parts, "x", "nil"), "")
        facts.append(("is",) + told)
        self.assertIsNone(open_pair(facts, parts))
        self.assertEqual(known(facts, parts, "x", "nil"), "is")
        facts[0] = ("not", "x", "nil")
        self.assertIs(clashes(facts, parts), True)
        parts.pop()
        self.assertIs(clashes(facts, parts), False)
        self.assertEqual(known(facts, parts, "nil", "x"), "not")


if __name__ == "__main__":
    unittest.main()
