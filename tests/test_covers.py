import copy
import itertools
import unittest

from apart.covers import cover, fits
from apart.errors import ApartError, NoName, NoProgram, NoRow, NoTelling, NoText, NoValue
from apart.notes import read_telling
from telling_cases import forty_facts

BIG = 10 ** 60 - 1


class FitMixin:
    def assert_kinds(self, told):
        self.assertTrue(told is None or type(told) is list, told)
        for row in told or []:
            self.assertIs(type(row), list)

    def assert_cover(self, values, heap, telling, rows):
        """The rows are told, or None; and it fits just where the rows have all cells."""
        telling = read_telling(telling) if type(telling) is str else telling
        told = cover(values, heap, telling)
        self.assertEqual(told, rows)
        self.assert_kinds(told)
        all_taken = rows is not None and sorted(sum(rows, [])) == sorted(heap)
        self.assertIs(fits(values, heap, telling), all_taken)

    def assert_fits(self, values, heap, telling, rows):
        self.assert_cover(values, heap, telling, rows)
        self.assertIs(fits(values, heap, read_telling(telling)), True)

    def assert_unfit(self, values, heap, telling):
        self.assert_cover(values, heap, telling, None)


class FactTests(FitMixin, unittest.TestCase):
    """Point 9: its facts hold."""

    def test_no_fact_and_no_part(self):
        self.assert_fits({}, {}, "nothing", [])
        self.assert_fits({"x": 5}, {}, "nothing", [])

    def test_is_and_not(self):
        for x, y in itertools.product((0, 1, 7, BIG), repeat=2):
            with self.subTest(x=x, y=y):
                self.assert_cover({"x": x, "y": y}, {}, "x is y", [] if x == y else None)
                self.assert_cover({"x": x, "y": y}, {}, "y is x", [] if x == y else None)
                self.assert_cover({"x": x, "y": y}, {}, "x not y", None if x == y else [])
                self.assert_cover({"x": x, "y": y}, {}, "y not x", None if x == y else [])

    def test_nil_is_the_value_nought(self):
        for x in (0, 1, 3, BIG):
            with self.subTest(x=x):
                self.assert_cover({"x": x}, {}, "x is nil", [] if x == 0 else None)
                self.assert_cover({"x": x}, {}, "nil is x", [] if x == 0 else None)
                self.assert_cover({"x": x}, {}, "x not nil", None if x == 0 else [])
                self.assert_cover({"x": x}, {}, "nil not x", None if x == 0 else [])
        self.assert_fits({}, {}, "nil is nil", [])
        self.assert_unfit({}, {}, "nil not nil")

    def test_a_name_and_itself(self):
        for x in (0, 4):
            self.assert_fits({"x": x}, {}, "x is x", [])
            self.assert_unfit({"x": x}, {}, "x not x")

    def test_great_numbers_that_differ_in_one_figure(self):
        self.assert_unfit({"x": BIG, "y": BIG - 1}, {}, "x is y")
        self.assert_fits({"x": BIG, "y": BIG - 1}, {}, "x not y", [])

    def test_each_fact_must_hold(self):
        values = {"x": 1, "y": 1, "z": 2}
        good = ["x is y", "z not x", "y not nil", "z is z", "nil not z"]
        bad = ["x not y", "z is x", "y is nil", "z not z"]
        self.assert_fits(values, {}, ", ".join(good), [])
        for wrong in bad:
            for place in range(len(good) + 1):
                with self.subTest(wrong=wrong, place=place):
                    self.assert_unfit(values, {}, ", ".join(good[:place] + [wrong] + good[place:]))

    def test_forty_facts(self):
        values = {name: 5 for name in "abcdefgh"}
        facts = forty_facts()
        self.assertEqual(len(facts), 40)
        self.assert_cover(values, {}, (facts, []), [])
        for place in (0, 13, 38, 39):
            wrong = facts[:place] + [("not", "a", "b")] + facts[place + 1:]
            self.assert_cover(values, {}, (wrong, []), None)
        self.assert_cover(dict(values, h=6), {}, (facts, []), None)

    def test_facts_beside_parts(self):
        heap = {1: (2, 0)}
        self.assert_fits({"x": 1, "y": 2}, heap, "x not y, cell x y nil", [[1]])
        self.assert_unfit({"x": 1, "y": 2}, heap, "x is y, cell x y nil")
        self.assert_unfit({"x": 1, "y": 2}, heap, "x is y, cell x any any")


class CellTests(FitMixin, unittest.TestCase):
    """Points 9 and 10: one cell."""

    def test_told_values(self):
        for first, second in itertools.product((0, 1, 2, 3, 9), repeat=2):
            with self.subTest(first=first, second=second):
                heap = {1: (first, second)}
                values = {"x": 1, "y": 2, "z": 3}
                self.assert_cover(values, heap, "cell x y z", [[1]] if (first, second) == (2, 3) else None)
                self.assert_cover(values, heap, "cell x z y", [[1]] if (first, second) == (3, 2) else None)
                self.assert_cover(values, heap, "cell x y nil", [[1]] if (first, second) == (2, 0) else None)
                self.assert_cover(values, heap, "cell x nil y", [[1]] if (first, second) == (0, 2) else None)
                self.assert_cover(values, heap, "cell x x x", [[1]] if (first, second) == (1, 1) else None)
                self.assert_cover(values, heap, "cell x any z", [[1]] if second == 3 else None)
                self.assert_cover(values, heap, "cell x z any", [[1]] if first == 3 else None)
                self.assert_cover(values, heap, "cell x any nil", [[1]] if second == 0 else None)
                self.assert_cover(values, heap, "cell x nil any", [[1]] if first == 0 else None)
                self.assert_cover(values, heap, "cell x any any", [[1]])

    def test_a_cell_that_lies_elsewhere(self):
        for telling in ("cell x any any", "cell x nil nil", "cell x x x"):
            self.assert_unfit({"x": 2}, {1: (0, 0)}, telling)
            self.assert_unfit({"x": 2}, {}, telling)
            self.assert_unfit({"x": 0}, {1: (0, 0)}, telling)

    def test_no_cell_lies_at_nil(self):
        self.assert_unfit({"x": 1}, {1: (0, 0)}, "cell nil any any")
        self.assert_unfit({"x": 0}, {}, "cell x any any")

    def test_two_cells_at_two_addresses(self):
        heap = {4: (7, 0), 7: (4, 4)}
        self.assert_fits({"x": 4, "y": 7}, heap, "cell x y nil, cell y x x", [[4], [7]])
        self.assert_fits({"x": 4, "y": 7}, heap, "cell y x x, cell x y nil", [[7], [4]])

    def test_addresses_and_values_of_sixty_figures(self):
        heap = {BIG: (BIG - 1, BIG)}
        self.assert_fits({"x": BIG, "y": BIG - 1}, heap, "cell x y x", [[BIG]])
        self.assert_unfit({"x": BIG - 1, "y": BIG}, heap, "cell x any any")
        self.assert_unfit({"x": BIG, "y": BIG - 2}, heap, "cell x y x")


class StretchTests(FitMixin, unittest.TestCase):
    """Points 9 and 10: a stretch."""

    def test_without_cells(self):
        self.assert_fits({"x": 3}, {}, "stretch x x", [[]])
        self.assert_fits({"x": 3, "y": 3}, {}, "stretch x y", [[]])
        self.assert_fits({"x": 0}, {}, "stretch x nil", [[]])
        self.assert_fits({"x": 0}, {}, "stretch nil x", [[]])
        self.assert_fits({}, {}, "stretch nil nil", [[]])

    def test_without_cells_where_cells_lie(self):
        heap = {3: (0, 3), 4: (0, 3)}
        self.assert_cover({"x": 3}, heap, "stretch x x", [[]])
        self.assert_cover({"x": 4, "y": 4}, heap, "stretch x y", [[]])
        self.assert_fits({"x": 3, "y": 4}, heap, "stretch x x, stretch y x, cell x nil x", [[], [4], [3]])

    def test_of_one_cell(self):
        self.assert_fits({"x": 5}, {5: (9, 0)}, "stretch x nil", [[5]])
        self.assert_fits({"x": 5, "y": 8}, {5: (5, 8)}, "stretch x y", [[5]])
        self.assert_fits({"x": 5, "y": 8}, {5: (0, 8), 8: (0, 5)}, "stretch x y, stretch y x", [[5], [8]])

    def test_of_many_as_they_are_met(self):
        heap = {5: (1, 3), 3: (5, 9), 9: (0, 2), 2: (9, 7)}
        self.assert_fits({"x": 5, "y": 7}, heap, "stretch x y", [[5, 3, 9, 2]])
        self.assert_fits({"x": 5, "y": 7, "z": 9}, heap, "stretch x z, stretch z y", [[5, 3], [9, 2]])
        self.assert_fits({"x": 5, "y": 7, "z": 9}, heap, "stretch z y, stretch x z", [[9, 2], [5, 3]])
        self.assert_unfit({"x": 5}, heap, "stretch x nil")

    def test_it_goes_along_the_second_values(self):
        self.assert_unfit({"x": 1, "y": 2}, {1: (2, 0)}, "stretch x y")
        self.assert_fits({"x": 1, "y": 2}, {1: (0, 2)}, "stretch x y", [[1]])

    def test_its_end_is_an_address_with_a_cell(self):
        heap = {1: (0, 2), 2: (0, 3), 3: (0, 0)}
        self.assert_cover({"x": 1, "y": 3}, heap, "stretch x y", [[1, 2]])
        self.assert_cover({"x": 1, "y": 2}, heap, "stretch x y", [[1]])
        self.assert_fits({"x": 1, "y": 2, "z": 3}, heap, "stretch x y, cell y nil z, stretch z nil", [[1], [2], [3]])

    def test_its_end_is_an_address_without_a_cell(self):
        self.assert_fits({"x": 1, "y": 3}, {1: (0, 2), 2: (0, 3)}, "stretch x y", [[1, 2]])

    def test_an_end_met_for_the_first_time_though_the_chain_goes_on(self):
        ring = {1: (0, 2), 2: (0, 3), 3: (0, 1)}
        self.assert_cover({"x": 1, "y": 3}, ring, "stretch x y", [[1, 2]])
        self.assert_cover({"x": 2, "y": 1}, ring, "stretch x y", [[2, 3]])
        self.assert_cover({"x": 1, "y": 1}, ring, "stretch x y", [[]])
        self.assert_fits({"x": 1, "y": 3}, ring, "stretch x y, stretch y x", [[1, 2], [3]])

    def test_it_comes_to_an_address_without_a_cell_ahead_of_its_end(self):
        self.assert_unfit({"x": 1, "y": 9}, {1: (0, 2), 2: (0, 3)}, "stretch x y")
        self.assert_unfit({"x": 1}, {1: (0, 2)}, "stretch x nil")
        self.assert_unfit({"x": 1}, {}, "stretch x nil")
        self.assert_unfit({"x": 1, "y": 2}, {2: (0, 0)}, "stretch x y")

    def test_it_comes_to_nil_ahead_of_its_end(self):
        self.assert_unfit({"x": 1, "y": 9}, {1: (0, 0)}, "stretch x y")
        self.assert_unfit({"x": 0, "y": 9}, {9: (0, 0)}, "stretch x y")
        self.assert_unfit({"y": 9}, {9: (0, 0)}, "stretch nil y")

    def test_it_comes_to_a_cell_of_its_own_again(self):
        self.assert_unfit({"x": 1}, {1: (0, 1)}, "stretch x nil")
        self.assert_unfit({"x": 1, "y": 9}, {1: (0, 2), 2: (0, 1)}, "stretch x y")
        self.assert_unfit({"x": 1, "y": 9}, {1: (0, 2), 2: (0, 3), 3: (0, 2)}, "stretch x y")
        self.assert_unfit({"x": 1, "y": 4}, {1: (0, 2), 2: (0, 1), 4: (0, 0)}, "stretch x y, cell y nil nil")

    def test_two_hundred_cells(self):
        addresses = [7 * count % 211 + 1 for count in range(1, 201)]
        heap = dict(zip(addresses, zip(addresses[::-1], addresses[1:] + [0])))
        self.assertEqual(len(heap), 200)
        self.assert_fits({"x": addresses[0]}, heap, "stretch x nil", [addresses])
        values = {"x": addresses[0], "y": addresses[120]}
        self.assert_fits(values, heap, "stretch x y, stretch y nil", [addresses[:120], addresses[120:]])
        heap[addresses[199]] = (0, addresses[0])
        self.assert_unfit(values, heap, "stretch x nil")
        self.assert_cover(values, heap, "stretch y x", [addresses[120:]])

    def test_addresses_of_sixty_figures(self):
        heap = {BIG - 1: (0, BIG), BIG: (0, BIG - 2)}
        self.assert_fits({"x": BIG - 1, "y": BIG - 2}, heap, "stretch x y", [[BIG - 1, BIG]])
        self.assert_unfit({"x": BIG - 1, "y": BIG - 3}, heap, "stretch x y")


class TreeTests(FitMixin, unittest.TestCase):
    """Points 9 and 10: a tree."""

    def test_of_nil(self):
        self.assert_fits({}, {}, "tree nil", [[]])
        self.assert_fits({"x": 0}, {}, "tree x", [[]])
        self.assert_cover({"x": 0}, {1: (0, 0)}, "tree x", [[]])

    def test_of_one_cell(self):
        self.assert_fits({"x": 6}, {6: (0, 0)}, "tree x", [[6]])

    def test_of_many_in_order(self):
        heap = {1: (9, 2), 9: (8, 3), 8: (0, 0), 3: (0, 5), 5: (0, 0), 2: (7, 0), 7: (0, 0)}
        self.assert_fits({"x": 1}, heap, "tree x", [[1, 9, 8, 3, 5, 2, 7]])
        self.assert_cover({"x": 2}, heap, "tree x", [[2, 7]])
        self.assert_fits({"x": 1, "y": 9, "z": 2}, heap, "tree z, cell x y z, tree y", [[2, 7], [1], [9, 8, 3, 5]])

    def test_one_sided(self):
        self.assert_fits({"x": 1}, {1: (2, 0), 2: (3, 0), 3: (0, 0)}, "tree x", [[1, 2, 3]])
        self.assert_fits({"x": 1}, {1: (0, 2), 2: (0, 3), 3: (0, 0)}, "tree x", [[1, 2, 3]])

    def test_an_address_without_a_cell(self):
        self.assert_unfit({"x": 1}, {}, "tree x")
        self.assert_unfit({"x": 1}, {2: (0, 0)}, "tree x")
        self.assert_unfit({"x": 1}, {1: (2, 0)}, "tree x")
        self.assert_unfit({"x": 1}, {1: (0, 2)}, "tree x")
        self.assert_unfit({"x": 1}, {1: (2, 3), 2: (0, 0), 3: (4, 0)}, "tree x")

    def test_a_cell_met_twice(self):
        self.assert_unfit({"x": 1}, {1: (1, 0)}, "tree x")
        self.assert_unfit({"x": 1}, {1: (0, 1)}, "tree x")
        self.assert_unfit({"x": 1}, {1: (2, 2), 2: (0, 0)}, "tree x")
        self.assert_unfit({"x": 1}, {1: (2, 3), 2: (0, 0), 3: (0, 2)}, "tree x")
        self.assert_unfit({"x": 1}, {1: (2, 3), 2: (3, 0), 3: (0, 0)}, "tree x")
        self.assert_unfit({"x": 1}, {1: (0, 2), 2: (0, 1)}, "tree x")

    def test_two_hundred_cells(self):
        for make in (lambda k: (k + 1, 0), lambda k: (0, k + 1)):
            heap = {count: make(count) if count < 200 else (0, 0) for count in range(1, 201)}
            self.assert_fits({"x": 1}, heap, "tree x", [list(range(1, 201))])
        heap = {k: (2 * k if 2 * k <= 200 else 0, 2 * k + 1 if 2 * k < 200 else 0) for k in range(1, 201)}

        def in_order(top):
            return [top] + in_order(heap[top][0]) + in_order(heap[top][1]) if top else []

        self.assert_fits({"x": 1}, heap, "tree x", [in_order(1)])

    def test_a_comb_of_two_hundred_cells(self):
        # Each tooth hangs at a first value while the comb goes on along the second ones.
        heap = {count: (count + 100, count + 1 if count < 100 else 0) for count in range(1, 101)}
        heap.update({count: (0, 0) for count in range(101, 201)})
        order = [number for count in range(1, 101) for number in (count, count + 100)]
        self.assert_fits({"x": 1}, heap, "tree x", [order])

    def test_addresses_of_sixty_figures(self):
        heap = {BIG: (BIG - 1, BIG - 2), BIG - 1: (0, 0), BIG - 2: (0, 0)}
        self.assert_fits({"x": BIG}, heap, "tree x", [[BIG, BIG - 1, BIG - 2]])


class WholeTests(FitMixin, unittest.TestCase):
    """Points 9 and 10: parts beside each other."""

    def test_two_parts_that_take_one_cell(self):
        heap = {1: (0, 0)}
        values = {"x": 1, "y": 1}
        for one, other in itertools.product(("cell x any any", "stretch x nil", "tree x"), repeat=2):
            with self.subTest(one=one, other=other):
                self.assert_unfit(values, heap, f"{one}, {other}")
                self.assert_unfit(values, heap, f"{one}, {other.replace('x', 'y')}")

    def test_two_parts_that_meet_further_on(self):
        heap = {1: (0, 3), 2: (0, 3), 3: (0, 0)}
        values = {"x": 1, "y": 2, "z": 3}
        self.assert_unfit(values, heap, "stretch x nil, stretch y nil")
        self.assert_unfit(values, heap, "tree x, tree y")
        self.assert_unfit(values, heap, "tree x, stretch y nil")
        self.assert_unfit(values, heap, "stretch x nil, cell z any any")
        self.assert_fits(values, heap, "stretch x nil, stretch y z", [[1, 3], [2]])

    def test_parts_that_are_empty_may_share_a_place(self):
        self.assert_fits({"x": 1}, {1: (0, 0)}, "stretch x x, tree x, stretch x x", [[], [1], []])
        self.assert_fits({"x": 0}, {}, "tree x, stretch x nil, tree nil", [[], [], []])

    def test_parts_in_another_order(self):
        heap = {1: (2, 3), 2: (0, 0), 3: (0, 4), 4: (0, 0)}
        rows = {"cell x y z": [1], "tree y": [2], "stretch z w": [3], "cell w nil nil": [4]}
        for order in itertools.permutations(rows):
            with self.subTest(order=order):
                values = {"x": 1, "y": 2, "z": 3, "w": 4}
                self.assert_fits(values, heap, ", ".join(order), [rows[part] for part in order])

    def test_cells_left_over(self):
        heap = {1: (0, 2), 2: (0, 0), 3: (1, 1)}
        values = {"x": 1, "y": 2, "z": 3}
        for telling, rows in (("nothing", []), ("x not y", []), ("stretch x nil", [[1, 2]]), ("tree x", [[1, 2]]),
                              ("cell z x x", [[3]]), ("cell x any y, cell z x any", [[1], [3]]), ("tree nil", [[]])):
            with self.subTest(telling=telling):
                self.assert_cover(values, heap, telling, rows)
                self.assertIs(fits(values, heap, read_telling(telling)), False)

    def test_no_part_at_all(self):
        self.assert_fits({"x": 1}, {}, "x is x", [])
        self.assert_cover({"x": 1}, {1: (0, 0)}, "nothing", [])
        self.assertIs(fits({}, {1: (0, 0)}, ([], [])), False)
        self.assertIs(fits({}, {}, ([], [])), True)

    def test_six_parts(self):
        heap = {1: (2, 3), 2: (0, 0), 3: (3, 4), 4: (0, 5), 5: (6, 6), 6: (0, 0)}
        values = {"a": 1, "b": 2, "c": 3, "d": 4, "e": 5, "f": 6, "g": 0, "h": 5}
        telling = "cell a b c, tree b, stretch c d, cell d g h, cell e any f, tree f"
        self.assert_fits(values, heap, telling, [[1], [2], [3], [4], [5], [6]])

    def test_the_order_of_the_heap_changes_nothing(self):
        cells = [(1, (2, 3)), (2, (0, 0)), (3, (0, 0)), (4, (9, 5)), (5, (9, 0))]
        for order in itertools.permutations(cells):
            rows = [[4, 5], [1, 2, 3]]
            self.assertEqual(cover({"x": 1, "y": 4}, dict(order), read_telling("stretch y nil, tree x")), rows)

    def test_two_names_for_one_value(self):
        heap = {1: (0, 2), 2: (0, 0)}
        values = {"x": 1, "y": 2, "v": 1, "w": 2, "n": 0}
        self.assert_fits(values, heap, "v is x, cell x nil w, stretch y n", [[1], [2]])
        self.assert_fits(values, heap, "stretch x w, tree y", [[1], [2]])


class NoValueTests(unittest.TestCase):
    """Point 11."""

    def assert_no_value(self, values, heap, telling):
        for asked in (cover, fits):
            with self.assertRaises(NoValue) as caught:
                asked(values, heap, telling)
            self.assertIsInstance(caught.exception, ApartError)
            self.assertIsInstance(caught.exception, ValueError)
            self.assertNotIsInstance(caught.exception, (NoTelling, NoProgram, NoRow, NoName, NoText))

    def test_each_place_of_a_name(self):
        for text in ("x is q", "q is x", "x not q", "q not x", "q is q", "q not q", "cell q x x", "cell x q x",
                     "cell x x q", "cell x any q", "cell q any any", "stretch x q", "stretch q x", "stretch q q",
                     "tree q"):
            with self.subTest(text=text):
                for x in (0, 1):
                    self.assert_no_value({"x": x}, {}, read_telling(text))
                    self.assert_no_value({"x": x}, {1: (0, 1)}, read_telling(text))

    def test_ahead_of_all_else(self):
        for text in ("x not x, tree q", "x is nil, q is q", "nil not nil, cell q any any", "cell nil any any, tree q",
                     "tree x, stretch q q", "cell x nil nil, cell x nil nil, x is q", "stretch x nil, tree q"):
            with self.subTest(text=text):
                self.assert_no_value({"x": 1}, {}, read_telling(text))
                self.assert_no_value({"x": 1}, {1: (1, 1), 2: (5, 5)}, read_telling(text))

    def test_no_values_at_all(self):
        self.assert_no_value({}, {}, read_telling("tree x"))
        self.assert_no_value({}, {}, read_telling("x is x"))
        self.assertEqual(cover({}, {}, read_telling("tree nil, stretch nil nil, nil is nil")), [[], []])

    def test_one_of_eight_is_lacking(self):
        values = {name: 0 for name in "abcdefgh"}
        telling = (forty_facts(), [("tree", "a")])
        for name in values:
            lacking = {other: 0 for other in values if other != name}
            self.assert_no_value(lacking, {}, (telling[0] + [("is", name, name)], telling[1]))

    def test_names_beside_change_nothing(self):
        telling = read_telling("cell x any y, stretch y nil")
        heap = {1: (5, 2), 2: (0, 0)}
        values = {"x": 1, "y": 2}
        beside = {"q": 7, "x": 1, "nila": 3, "z": 1, "y": 2, "w": 0}
        self.assertEqual(cover(beside, heap, telling), cover(values, heap, telling))
        self.assertEqual(cover(values, heap, telling), [[1], [2]])
        self.assertIs(fits(beside, heap, telling), True)
        self.assertIs(fits(dict(beside, y=1), heap, telling), False)

    def test_a_lacking_name_is_not_nought(self):
        self.assert_no_value({"y": 1}, {}, read_telling("tree x"))
        self.assert_no_value({"y": 0}, {}, read_telling("stretch y x"))


class OwnTests(unittest.TestCase):
    """Point 2."""

    CASES = (
        ({"x": 1, "y": 3, "q": 9}, {1: (0, 2), 2: (0, 3), 3: (4, 0), 4: (0, 0)}, "x not y, stretch x y, tree y"),
        ({"x": 1, "y": 3}, {1: (0, 2), 3: (4, 0)}, "stretch x y, tree y"),
        ({"x": 1}, {1: (0, 0), 7: (7, 7)}, "cell x any nil"),
        ({"x": 0}, {}, "tree x, stretch x nil"),
        ({}, {}, "nothing"),
    )

    def test_nothing_that_is_handed_in_is_changed(self):
        for values, heap, text in self.CASES:
            with self.subTest(text=text):
                telling = read_telling(text)
                handed = (values, heap, telling)
                before = copy.deepcopy(handed)
                orders = (list(values), list(heap))
                cover(*handed)
                fits(*handed)
                self.assertEqual(handed, before)
                self.assertEqual((list(values), list(heap)), orders)

    def test_what_is_refused_is_not_changed(self):
        values, heap, telling = {"x": 1}, {1: (0, 0)}, read_telling("tree x, tree y")
        before = copy.deepcopy((values, heap, telling))
        for asked in (cover, fits):
            with self.assertRaises(NoValue):
                asked(values, heap, telling)
        self.assertEqual((values, heap, telling), before)

    def test_each_cover_is_the_askers_own(self):
        for values, heap, text in self.CASES:
            telling = read_telling(text)
            first = cover(values, heap, telling)
            expected = copy.deepcopy(first)
            if first is None:
                continue
            for row in first:
                row.clear()
            first.clear()
            with self.subTest(text=text):
                second = cover(values, heap, telling)
                self.assertEqual(second, expected)
                self.assertEqual(len({id(row) for row in second}), len(second))

    def test_a_later_change_of_what_was_handed_in_changes_no_answer(self):
        values, heap, telling = {"x": 1}, {1: (0, 0)}, ([], [("tree", "x")])
        told = cover(values, heap, telling)
        values["x"] = 2
        heap[2] = heap.pop(1)
        self.assertEqual(told, [[1]])
        self.assertEqual(cover(values, heap, telling), [[2]])
        telling[1].append(("tree", "x"))
        self.assertIsNone(cover(values, heap, telling))
        heap.clear()
        self.assertIsNone(cover(values, heap, telling))


if __name__ == "__main__":
    unittest.main()
