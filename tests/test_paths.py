import copy
import random
import unittest

from apart.paths import begins, deed_at, settled
from telling_cases import empty, some_program

SET = ("set", "x", "nil")
FREE = ("free", "y")
IS = ("is", "x", "nil")


def an_if(first, second):
    return ("if", IS, first, second)


def a_while(deeds):
    return ("while", IS, ([("is", "x", "y")], [("tree", "x")]), deeds)


def places_of(deeds, ahead, behind):
    """All paths in a list of deeds, each with the one for which it stands; behind is that of the list's end."""
    found = []
    for number, deed in enumerate(deeds):
        path = ahead + (number,)
        found.append((path, path))
        later = path[:-1] + (number + 1,) if number + 1 < len(deeds) else behind
        if deed[0] == "if":
            found += places_of(deed[2], path + (0,), later) + places_of(deed[3], path + (1,), later)
        if deed[0] == "while":
            found += places_of(deed[3], path + (0,), path)
    return found + [(ahead + (len(deeds),), behind)]


def all_places(body):
    return places_of(body, (), (len(body),))


def deeds_by_paths(deeds, ahead):
    found = {}
    for number, deed in enumerate(deeds):
        path = ahead + (number,)
        found[path] = deed
        for side, inner in enumerate({"if": deed[2:], "while": deed[3:]}.get(deed[0], ())):
            found.update(deeds_by_paths(inner, path + (side,)))
    return found


BODIES = (
    [],
    [SET],
    [SET, FREE],
    [an_if([], [])],
    [an_if([SET], [])],
    [an_if([], [SET])],
    [an_if([SET], [FREE]), SET],
    [a_while([])],
    [a_while([SET])],
    [a_while([]), a_while([])],
    [an_if([an_if([an_if([an_if([], [])], [])], [an_if([], [SET])])], [])],
    [a_while([a_while([a_while([a_while([])])])])],
    [a_while([an_if([a_while([an_if([], [])])], [SET, a_while([])])]), FREE],
    [an_if([a_while([an_if([SET], [])])], [a_while([]), an_if([], [a_while([FREE])])])],
    [SET, an_if([SET, a_while([SET, an_if([SET], [SET]), SET]), SET], [SET, an_if([], []), SET]), SET],
)


def some_bodies():
    chance = random.Random(30)
    return [procedure[5] for count in range(150) for procedure in some_program(chance)]


class SettledTests(unittest.TestCase):
    """Point 25."""

    def test_ends_of_ifs(self):
        body = [an_if([SET], [FREE]), SET]
        self.assertEqual(settled(body, (0, 0, 0)), (0, 0, 0))
        self.assertEqual(settled(body, (0, 0, 1)), (1,))
        self.assertEqual(settled(body, (0, 1, 0)), (0, 1, 0))
        self.assertEqual(settled(body, (0, 1, 1)), (1,))
        self.assertEqual(settled(body, (2,)), (2,))
        self.assertEqual(settled([an_if([], [])], (0, 0, 0)), (1,))
        self.assertEqual(settled([an_if([], [])], (0, 1, 0)), (1,))

    def test_on_and_on(self):
        body = [an_if([an_if([], [an_if([SET], [])])], [])]
        self.assertEqual(settled(body, (0, 0, 0, 1, 0, 0, 1)), (1,))
        self.assertEqual(settled(body, (0, 0, 0, 1, 0, 1, 0)), (1,))
        self.assertEqual(settled(body, (0, 0, 0, 1, 0, 0, 0)), (0, 0, 0, 1, 0, 0, 0))
        body = [an_if([an_if([], []), SET], [])]
        self.assertEqual(settled(body, (0, 0, 0, 0, 0)), (0, 0, 1))

    def test_ends_of_whiles(self):
        body = [SET, a_while([SET])]
        self.assertEqual(settled(body, (1, 0, 0)), (1, 0, 0))
        self.assertEqual(settled(body, (1, 0, 1)), (1,))
        self.assertEqual(settled(body, (2,)), (2,))
        self.assertEqual(settled([a_while([])], (0, 0, 0)), (0,))
        # Behind the inner while is the end of the outer one's deeds, but its own end is the inner one.
        body = [a_while([a_while([])])]
        self.assertEqual(settled(body, (0, 0, 0, 0, 0)), (0, 0, 0))
        self.assertEqual(settled(body, (0, 0, 1)), (0,))
        body = [a_while([an_if([], [])])]
        self.assertEqual(settled(body, (0, 0, 0, 1, 0)), (0,))

    def test_all_places(self):
        for body in list(BODIES) + some_bodies():
            for path, stands_for in all_places(body):
                self.assertEqual(settled(body, path), stands_for, (body, path))

    def test_a_settled_path_is_of_a_deed_or_the_end(self):
        for body in BODIES:
            for path, stands_for in all_places(body):
                told = settled(body, path)
                self.assertIs(type(told), tuple)
                self.assertEqual(settled(body, told), told)
                self.assertEqual(deed_at(body, told) is None, told == (len(body),))


class DeedTests(unittest.TestCase):
    """Point 25."""

    def test_some_deeds(self):
        inner = a_while([FREE])
        body = [SET, an_if([SET], [FREE, inner])]
        self.assertEqual(deed_at(body, (0,)), SET)
        self.assertEqual(deed_at(body, (1,)), body[1])
        self.assertEqual(deed_at(body, (1, 0, 0)), SET)
        self.assertEqual(deed_at(body, (1, 1, 0)), FREE)
        self.assertEqual(deed_at(body, (1, 1, 1)), inner)
        self.assertEqual(deed_at(body, (1, 1, 1, 0, 0)), FREE)
        self.assertIsNone(deed_at(body, (2,)))
        self.assertIsNone(deed_at([], (0,)))

    def test_all_deeds(self):
        for body in list(BODIES) + some_bodies():
            deeds = deeds_by_paths(body, ())
            for path, stands_for in all_places(body):
                self.assertEqual(deed_at(body, stands_for), deeds.get(stands_for), (body, path))


class BeginTests(unittest.TestCase):
    """Point 30."""

    def test_some_bodies(self):
        for body, told in (
                ([], [(0,)]),
                ([SET, an_if([SET], [])], [(0,)]),
                ([a_while([])], [(0,), (0, 0, 0), (1,)]),
                ([SET, a_while([SET]), SET], [(0,), (1, 0, 0), (2,)]),
                ([a_while([]), a_while([])], [(0,), (0, 0, 0), (1,), (1, 0, 0), (2,)]),
                ([a_while([a_while([])])], [(0,), (0, 0, 0), (0, 0, 0, 0, 0), (0, 0, 1), (1,)]),
                ([an_if([SET, a_while([])], [a_while([])])],
                 [(0,), (0, 0, 1, 0, 0), (0, 0, 2), (0, 1, 0, 0, 0), (0, 1, 1)]),
                ([a_while([SET] * 3 + [a_while([])])], [(0,), (0, 0, 0), (0, 0, 3, 0, 0), (0, 0, 4), (1,)]),
        ):
            self.assertEqual(begins(body), told)

    def test_numbers_are_sorted_as_numbers(self):
        body = [SET] * 9 + [a_while([]), SET, a_while([])]
        self.assertEqual(begins(body), [(0,), (9, 0, 0), (10,), (11, 0, 0), (12,)])

    def test_all_bodies(self):
        for body in list(BODIES) + some_bodies():
            told = [(0,)]
            for path, deed in deeds_by_paths(body, ()).items():
                if deed[0] == "while":
                    told += [path + (0, 0), path[:-1] + (path[-1] + 1,)]
            self.assertEqual(begins(body), sorted(told), body)
            self.assertIs(type(begins(body)), list)


class OwnTests(unittest.TestCase):
    """Point 2."""

    def test_nothing_that_is_handed_in_is_changed(self):
        for body in BODIES:
            before = copy.deepcopy(body)
            begins(body)
            for path, stands_for in all_places(body):
                deed_at(body, settled(body, path))
            self.assertEqual(body, before)

    def test_each_answer_is_the_askers_own(self):
        for body in BODIES:
            told = begins(body)
            expected = list(told)
            empty(told)
            self.assertEqual(begins(body), expected)
            before = copy.deepcopy(body)
            for path in deeds_by_paths(before, ()):
                empty(deed_at(body, path))
                self.assertEqual(body, before)

    def test_a_later_change_changes_no_answer(self):
        body = [a_while([an_if([SET], [FREE])])]
        told = deed_at(body, (0,))
        before = copy.deepcopy(told)
        empty(body[0][2])
        empty(body[0][3])
        self.assertEqual(told, before)


if __name__ == "__main__":
    unittest.main()
