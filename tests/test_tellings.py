import copy
import unittest

from apart.tellings import check_telling, names_of, renamed
from telling_cases import (
    FIGURES, GOOD_NAMES, LETTERS, NINE_NAMES, NO_PAIRS, NO_TELLINGS, NO_VALUES, PLACES, ROWS, TEN_WORDS,
    RefusalMixin, forty_facts, full_telling, one_row, with_word_at,
)


class NameTests(RefusalMixin, unittest.TestCase):
    """Point 5."""

    def test_names_are_taken_in_each_place(self):
        for kind, row, place in PLACES:
            for name in GOOD_NAMES:
                with self.subTest(row=row[0], place=place, name=name):
                    self.assertIsNone(check_telling(with_word_at(kind, row, place, name)))

    def test_each_letter_and_figure_is_taken_in_each_place_of_a_name(self):
        for sign in LETTERS + FIGURES:
            for ahead in range(1, 8):
                name = "q" * ahead + sign + "q" * (7 - ahead)
                with self.subTest(name=name):
                    self.assertIsNone(check_telling(([], [("tree", name)])))

    def test_what_is_no_name_is_refused_in_each_place(self):
        for kind, row, place in PLACES:
            for word in NO_VALUES:
                with self.subTest(row=row[0], place=place, word=word):
                    self.assert_no_telling(check_telling, with_word_at(kind, row, place, word))

    def test_a_row_without_a_single_name_is_refused(self):
        for word in NO_VALUES:
            with self.subTest(word=word):
                self.assert_no_telling(check_telling, ([("is", word, word)], []))
                self.assert_no_telling(check_telling, ([], [("cell", word, word, word)]))

    def test_each_of_the_ten_words_is_no_name(self):
        for word in TEN_WORDS:
            with self.subTest(word=word):
                telling = ([], [("tree", word)])
                if word == "nil":
                    # It is taken as a value, but is counted by no one as a name.
                    self.assertEqual(names_of(telling), [])
                else:
                    self.assert_no_telling(check_telling, telling)


class TellingTests(RefusalMixin, unittest.TestCase):
    """Point 6."""

    def test_the_one_without_facts_and_parts_is_taken(self):
        self.assertIsNone(check_telling(([], [])))

    def test_both_kinds_of_facts_and_all_three_kinds_of_parts_are_taken(self):
        for kind, row in ROWS:
            with self.subTest(row=row):
                self.assertIsNone(check_telling(one_row(kind, row)))

    def test_facts_and_parts_together_are_taken(self):
        telling = ([("not", "x", "y")], [("cell", "x", "any", "y"), ("stretch", "y", "nil"), ("tree", "z")])
        self.assertIsNone(check_telling(telling))

    def test_nil_is_taken_in_each_place(self):
        for kind, row, place in PLACES:
            with self.subTest(row=row[0], place=place):
                self.assertIsNone(check_telling(with_word_at(kind, row, place, "nil")))

    def test_nil_is_taken_in_all_places_at_once(self):
        for kind, row in ROWS:
            with self.subTest(row=row[0]):
                self.assertIsNone(check_telling(one_row(kind, row[:1] + ("nil",) * (len(row) - 1))))

    def test_one_name_is_taken_in_all_places_at_once(self):
        for kind, row in ROWS:
            with self.subTest(row=row[0]):
                self.assertIsNone(check_telling(one_row(kind, row[:1] + ("x",) * (len(row) - 1))))

    def test_any_is_taken_as_a_cells_first_or_second_value(self):
        for first in ("any", "x", "y", "nil"):
            for second in ("any", "x", "y", "nil"):
                with self.subTest(first=first, second=second):
                    self.assertIsNone(check_telling(([], [("cell", "x", first, second)])))

    def test_any_is_taken_nowhere_else(self):
        for kind, row, place in PLACES:
            if row[0] != "cell" or place == 1:
                with self.subTest(row=row[0], place=place):
                    self.assert_no_telling(check_telling, with_word_at(kind, row, place, "any"))
        self.assert_no_telling(check_telling, ([], [("cell", "any", "any", "any")]))

    def test_facts_that_clash_and_rows_that_stand_twice_are_taken(self):
        self.assertIsNone(check_telling(([("not", "x", "x"), ("is", "x", "nil"), ("not", "x", "nil")], [])))
        self.assertIsNone(check_telling(([("is", "x", "y")] * 3, [("cell", "x", "y", "y")] * 3)))


class BoundTests(RefusalMixin, unittest.TestCase):
    """Point 7."""

    def test_eight_facts_are_taken(self):
        self.assertIsNone(check_telling(([("is", "x", "y")] * 8, [])))
        self.assertIsNone(check_telling(([("not", name, "nil") for name in NINE_NAMES[:8]], [])))

    def test_six_parts_are_taken(self):
        self.assertIsNone(check_telling(([], [("tree", "x")] * 6)))
        self.assertIsNone(check_telling(([], [("cell", name, "any", "nil") for name in NINE_NAMES[:6]])))

    def test_eight_names_are_taken_with_nil_and_any_beside(self):
        telling = ([("is", "nil", "h")], [("cell", "a", "b", "c"), ("cell", "d", "e", "f"), ("cell", "g", "any", "nil")])
        self.assertIsNone(check_telling(telling))

    def test_eight_facts_six_parts_and_eight_names_are_taken_together(self):
        self.assertIsNone(check_telling(full_telling()))

    def test_one_more_of_each_is_refused(self):
        facts, parts = full_telling()
        self.assert_no_telling(check_telling, (facts + [("is", "a", "b")], parts))
        self.assert_no_telling(check_telling, (facts, parts + [("tree", "a")]))
        self.assert_no_telling(check_telling, (facts[:7] + [("is", "a", "i9")], parts))
        self.assert_no_telling(check_telling, (facts, parts[:5] + [("stretch", "h", "i9")]))

    def test_what_is_none_is_refused(self):
        for broken, telling in NO_TELLINGS + NO_PAIRS:
            with self.subTest(broken=broken):
                self.assert_no_telling(check_telling, telling)

    def test_names_of_takes_forty_facts(self):
        facts = forty_facts()
        self.assertEqual(len(facts), 40)
        self.assertEqual(names_of((facts, [("tree", "a")])), list(NINE_NAMES[:8]))

    def test_renamed_takes_forty_facts(self):
        facts = forty_facts()
        expected = [(fact[0], "q" if fact[1] == "a" else fact[1], "q" if fact[2] == "a" else fact[2]) for fact in facts]
        self.assertEqual(renamed((facts, [("tree", "a")]), {"a": "q"}), (expected, [("tree", "q")]))
        self.assertEqual(renamed((facts, []), {}), (forty_facts(), []))


class NamesOfTests(unittest.TestCase):
    """The interface."""

    def test_no_names(self):
        self.assertEqual(names_of(([], [])), [])
        self.assertEqual(names_of(([("is", "nil", "nil")], [("cell", "nil", "any", "any"), ("tree", "nil")])), [])

    def test_each_place_is_looked_at(self):
        for kind, row, place in PLACES:
            with self.subTest(row=row[0], place=place):
                places_of_row = len(row) - 1
                telling = one_row(kind, row[:1] + ("nil",) * (place - 1) + ("q7",) + ("nil",) * (places_of_row - place))
                self.assertEqual(names_of(telling), ["q7"])

    def test_they_are_sorted_and_each_stands_once(self):
        telling = (
            [("is", "z", "b"), ("not", "b", "nil"), ("not", "z", "z")],
            [("cell", "y", "b", "any"), ("stretch", "c", "z"), ("tree", "a"), ("cell", "x", "any", "y")],
        )
        self.assertEqual(names_of(telling), ["a", "b", "c", "x", "y", "z"])

    def test_names_of_more_signs_are_sorted_as_texts(self):
        telling = ([("is", "x2", "x10"), ("is", "xa", "x"), ("not", "bb", "b")], [("stretch", "abc", "a9")])
        self.assertEqual(names_of(telling), ["a9", "abc", "b", "bb", "x", "x10", "x2", "xa"])

    def test_names_like_the_words_are_names(self):
        telling = ([("is", "nilx", "many")], [("cell", "cells", "trees", "is2"), ("tree", "first")])
        self.assertEqual(names_of(telling), ["cells", "first", "is2", "many", "nilx", "trees"])

    def test_a_list_is_told(self):
        self.assertIs(type(names_of(full_telling())), list)
        self.assertEqual(names_of(full_telling()), list(NINE_NAMES[:8]))


class RenamedTests(unittest.TestCase):
    """The interface."""

    def assert_kinds(self, telling):
        self.assertIs(type(telling), tuple)
        self.assertEqual([type(rows) for rows in telling], [list, list])
        for rows in telling:
            for row in rows:
                self.assertIs(type(row), tuple)

    def test_each_place(self):
        for put in ("w", "nil"):
            for kind, row, place in PLACES:
                with self.subTest(row=row[0], place=place, put=put):
                    told = renamed(one_row(kind, row), {row[place]: put})
                    self.assertEqual(told, with_word_at(kind, row, place, put))
                    self.assert_kinds(told)

    def test_one_name_in_all_places(self):
        telling = (
            [("is", "x", "x"), ("not", "x", "y")],
            [("cell", "x", "x", "x"), ("stretch", "x", "x"), ("tree", "x"), ("cell", "y", "any", "x")],
        )
        expected = (
            [("is", "q", "q"), ("not", "q", "y")],
            [("cell", "q", "q", "q"), ("stretch", "q", "q"), ("tree", "q"), ("cell", "y", "any", "q")],
        )
        self.assertEqual(renamed(telling, {"x": "q"}), expected)

    def test_all_at_once(self):
        telling = ([("is", "x", "y")], [("cell", "x", "y", "z"), ("stretch", "y", "x"), ("tree", "z")])
        swapped = ([("is", "y", "x")], [("cell", "y", "x", "z"), ("stretch", "x", "y"), ("tree", "z")])
        turned = ([("is", "y", "z")], [("cell", "y", "z", "x"), ("stretch", "z", "y"), ("tree", "x")])
        for order in (("x", "y", "z"), ("z", "y", "x"), ("y", "x", "z")):
            with self.subTest(order=order):
                swap = {"x": "y", "y": "x", "z": "z"}
                turn = {"x": "y", "y": "z", "z": "x"}
                self.assertEqual(renamed(telling, {name: swap[name] for name in order}), swapped)
                self.assertEqual(renamed(telling, {name: turn[name] for name in order}), turned)

    def test_a_chain_goes_one_step(self):
        telling = ([("is", "a", "b"), ("not", "b", "c")], [("tree", "a"), ("tree", "b")])
        expected = ([("is", "b", "c"), ("not", "c", "nil")], [("tree", "b"), ("tree", "c")])
        self.assertEqual(renamed(telling, {"a": "b", "b": "c", "c": "nil"}), expected)
        self.assertEqual(renamed(telling, {"c": "nil", "b": "c", "a": "b"}), expected)

    def test_nil_is_put_for_names(self):
        telling = ([("is", "x", "y"), ("not", "y", "nil")], [("cell", "y", "x", "any"), ("stretch", "x", "y"), ("tree", "x")])
        expected = (
            [("is", "nil", "y"), ("not", "y", "nil")],
            [("cell", "y", "nil", "any"), ("stretch", "nil", "y"), ("tree", "nil")],
        )
        self.assertEqual(renamed(telling, {"x": "nil"}), expected)

    def test_two_names_may_become_one_and_no_row_goes(self):
        telling = ([("is", "x", "y"), ("is", "y", "x"), ("not", "x", "y")], [("stretch", "x", "y"), ("tree", "x"), ("tree", "y")])
        expected = ([("is", "z", "z"), ("is", "z", "z"), ("not", "z", "z")], [("stretch", "z", "z"), ("tree", "z"), ("tree", "z")])
        self.assertEqual(renamed(telling, {"x": "z", "y": "z"}), expected)

    def test_a_name_that_the_dict_lacks_stays_and_one_beside_does_nothing(self):
        telling = ([("is", "x", "x1")], [("cell", "ax", "xx", "x"), ("tree", "y")])
        expected = ([("is", "b", "x1")], [("cell", "ax", "xx", "b"), ("tree", "y")])
        self.assertEqual(renamed(telling, {"x": "b", "w": "v", "i": "j"}), expected)

    def test_nil_and_any_and_the_words_stay(self):
        telling = ([("is", "n", "nil"), ("not", "a", "i")], [("cell", "c", "any", "nil"), ("stretch", "s", "nil"), ("tree", "t")])
        names = {"n": "q", "a": "r", "i": "j", "c": "d", "s": "u", "t": "v"}
        expected = ([("is", "q", "nil"), ("not", "r", "j")], [("cell", "d", "any", "nil"), ("stretch", "u", "nil"), ("tree", "v")])
        self.assertEqual(renamed(telling, names), expected)

    def test_the_rows_stay_in_their_order(self):
        telling = full_telling()
        names = {name: name + "1" for name in NINE_NAMES}
        told = renamed(telling, names)
        self.assertEqual([row[0] for row in told[0]], [row[0] for row in telling[0]])
        self.assertEqual([row[0] for row in told[1]], [row[0] for row in telling[1]])
        self.assertEqual(names_of(told), [name + "1" for name in NINE_NAMES[:8]])
        self.assertEqual(renamed(told, {name + "1": name for name in NINE_NAMES}), telling)

    def test_no_dict_entry_changes_nothing(self):
        for telling in (([], []), full_telling()):
            self.assertEqual(renamed(telling, {}), telling)
            self.assertEqual(renamed(telling, {"w": "v"}), telling)
            self.assert_kinds(renamed(telling, {}))


class OwnTests(RefusalMixin, unittest.TestCase):
    """Point 2."""

    def test_nothing_that_is_handed_in_is_changed(self):
        for telling in (full_telling(), ([], []), ([("is", "z", "a")], [("tree", "z"), ("tree", "a")])):
            names = {"a": "b", "b": "nil", "z": "a", "w": "v"}
            telling_before, names_before = copy.deepcopy(telling), dict(names)
            check_telling(telling)
            names_of(telling)
            renamed(telling, names)
            self.assertEqual(telling, telling_before)
            self.assertEqual(list(names.items()), list(names_before.items()))

    def test_what_is_refused_is_not_changed(self):
        for broken, telling in NO_TELLINGS + NO_PAIRS:
            before = copy.deepcopy(telling)
            self.assert_no_telling(check_telling, telling)
            self.assertEqual(telling, before)

    def test_renamed_tells_new_lists(self):
        for names in ({}, {"w": "v"}, {"a": "a"}, {"a": "q"}):
            for make in (full_telling, lambda: ([], []), lambda: ([("is", "a", "b")], []), lambda: ([], [("tree", "a")])):
                with self.subTest(names=names, telling=make()):
                    telling = make()
                    told = renamed(telling, names)
                    expected = copy.deepcopy(told)
                    for rows in told:
                        self.assertFalse(any(rows is handed for handed in telling))
                    self.assertIsNot(told[0], told[1])
                    telling[0].append(("is", "late", "nil"))
                    telling[1].clear()
                    self.assertEqual(told, expected)

    def test_what_is_done_to_a_renamed_telling_changes_nothing(self):
        telling = full_telling()
        names = {"a": "q"}
        told = renamed(telling, names)
        expected = copy.deepcopy(told)
        told[0].clear()
        told[1].append(("tree", "late"))
        self.assertEqual(telling, full_telling())
        self.assertEqual(names, {"a": "q"})
        self.assertEqual(renamed(telling, names), expected)

    def test_two_renamed_tellings_share_no_list(self):
        telling = ([], [])
        one = renamed(telling, {})
        one[0].append(("is", "x", "y"))
        one[1].append(("tree", "x"))
        self.assertEqual(renamed(telling, {}), ([], []))
        self.assertEqual(renamed(([], []), {}), ([], []))

    def test_a_later_change_of_the_dict_is_seen_in_the_next_answer_alone(self):
        telling = ([("is", "a", "b")], [])
        names = {"a": "c"}
        told = renamed(telling, names)
        names["a"] = "d"
        names["b"] = "nil"
        self.assertEqual(told, ([("is", "c", "b")], []))
        self.assertEqual(renamed(telling, names), ([("is", "d", "nil")], []))

    def test_names_of_tells_a_new_list(self):
        telling = full_telling()
        told = names_of(telling)
        told.append("late")
        told[0] = "q"
        self.assertEqual(names_of(telling), list(NINE_NAMES[:8]))
        self.assertEqual(telling, full_telling())
        nothing = names_of(([], []))
        nothing.append("late")
        self.assertEqual(names_of(([], [])), [])

    def test_a_list_of_names_stays_when_the_telling_changes_and_the_next_one_has_the_change(self):
        telling = ([("is", "a", "b")], [])
        told = names_of(telling)
        telling[1].append(("tree", "c"))
        self.assertEqual(told, ["a", "b"])
        self.assertEqual(names_of(telling), ["a", "b", "c"])

    def test_a_changed_telling_is_checked_anew(self):
        telling = ([("is", "a", "b")] * 8, [])
        self.assertIsNone(check_telling(telling))
        telling[0].append(("is", "a", "b"))
        self.assert_no_telling(check_telling, telling)
        telling[0].pop()
        self.assertIsNone(check_telling(telling))


if __name__ == "__main__":
    unittest.main()
