import copy
import random
import unittest

from apart.errors import ApartError, NoName, NoProgram, NoRow, NoTelling, NoText, NoValue
from apart.notes import read_telling
from apart.programs import check_program, names_in
from telling_cases import GOOD_NAMES, NO_TELLINGS, NO_VALUES, TEN_WORDS, empty, lists_of, some_program

OTHER_REFUSALS = (NoTelling, NoValue, NoRow, NoName, NoText)
NOTHING = ([], [])
IS = ("is", "x", "nil")
SET = ("set", "u", "x")
# What stands for no name; nil and any neither.
NO_NAMES = NO_VALUES + ("nil", "any")
NO_TEXTS = tuple(word for word in NO_VALUES if word != "") + ("any",)


def telling(text):
    return read_telling(text)


def procedure(body=(), name="p", params=("x", "y"), result="", before="nothing", behind="nothing"):
    return (name, params, result, telling(before), telling(behind), list(body))


def program(*body):
    """A program with these deeds in one procedure, and two others that may be called."""
    return [procedure(body), procedure(name="q", params=("a",), result="b"), procedure(name="s", params=())]


def within(deed, count):
    """The deed within so many others."""
    for number in range(count):
        deed = ("if", IS, [deed], []) if number % 2 == 0 else ("while", IS, NOTHING, [deed])
    return deed


def with_thing_at(row, place, thing):
    return row[:place] + (thing,) + row[place + 1:]


# One deed of each kind, with the places of its names, of its values and of its fields.
DEEDS = (
    (("set", "u", "x"), (1,), (2,), ()),
    (("read", "u", "x", "first"), (1, 2), (), (3,)),
    (("write", "x", "second", "y"), (1,), (3,), (2,)),
    (("new", "u", "x", "y"), (1,), (2, 3), ()),
    (("free", "x"), (1,), (), ()),
)
GOOD_DEEDS = tuple(deed for deed, names, values, fields in DEEDS) + (
    ("set", "u", "nil"), ("set", "u", "u"), ("read", "u", "u", "second"), ("write", "u", "first", "u"),
    ("write", "x", "first", "nil"), ("new", "u", "nil", "nil"), ("new", "u", "u", "u"), ("free", "u"),
    ("if", ("is", "x", "y"), [], []), ("if", ("not", "nil", "nil"), [SET], []), ("if", IS, [], [SET]),
    ("if", IS, [SET, SET], [SET]), ("while", IS, NOTHING, []), ("while", ("not", "nil", "u"), NOTHING, [SET]),
    ("while", IS, telling("x not u, tree y, stretch x u"), [SET, ("while", IS, NOTHING, [])]),
    ("call", "u", "q", ("x",)), ("call", "u", "q", ("u",)), ("call", "u", "q", ("nil",)), ("call", "", "s", ()),
    ("call", "", "p", ("x", "y")), ("call", "", "p", ("nil", "nil")), ("call", "", "p", ("x", "x")),
    within(SET, 1), within(SET, 2), within(SET, 3), within(SET, 4), within(("if", IS, [], []), 4),
    within(("while", IS, NOTHING, []), 4),
)


class RefusalMixin:
    def assert_refused(self, handed):
        """Refused with NoProgram, which is an ApartError and a ValueError and none of the others."""
        with self.assertRaises(NoProgram, msg=handed) as caught:
            check_program(handed)
        self.assertIsInstance(caught.exception, ApartError)
        self.assertIsInstance(caught.exception, ValueError)
        self.assertNotIsInstance(caught.exception, OTHER_REFUSALS)

    def assert_taken(self, handed):
        try:
            self.assertIsNone(check_program(handed))
        except NoProgram:
            self.fail(f"refused: {handed}")


class HeadTests(RefusalMixin, unittest.TestCase):
    """Point 22."""

    def test_one_to_four_procedures(self):
        several = [procedure(name=name) for name in ("p", "q", "r", "s", "t")]
        for count in range(1, 5):
            self.assert_taken(several[:count])
        self.assert_refused(several)
        self.assert_refused([])

    def test_two_of_one_name(self):
        self.assert_refused([procedure(), procedure()])
        self.assert_refused([procedure(), procedure(name="q"), procedure(params=("z",))])
        self.assert_refused([procedure(), procedure(name="q"), procedure(name="r"), procedure(name="q")])
        # A procedure may be called like a param or a result, its own too.
        self.assert_taken([procedure(name="x"), procedure(name="y", result="r"), procedure(name="r")])

    def test_heads_of_another_size(self):
        good = procedure()
        self.assert_refused([()])
        for count in range(6):
            self.assert_refused([good[:count]])
            self.assert_refused([good[:count] + good[count + 1:]])
        self.assert_refused([good + ([],)])
        self.assert_refused([good + ("",)])
        self.assert_refused([good, good[:5]])
        self.assert_refused([procedure(name="q"), good[:3] + good[4:]])

    def test_names(self):
        for name in GOOD_NAMES:
            self.assert_taken([procedure(name=name)])
            self.assert_taken([procedure(params=(name,))])
            self.assert_taken([procedure(result=name, params=())])
        for name in NO_NAMES:
            self.assert_refused([procedure(name=name)])
            self.assert_refused([procedure(params=(name,))])
            self.assert_refused([procedure(params=("x", name))])
            if name != "":
                self.assert_refused([procedure(result=name)])

    def test_params(self):
        five = ("a", "b", "c", "d", "e")
        for count in range(5):
            self.assert_taken([procedure(params=five[:count])])
        self.assert_refused([procedure(params=five)])
        for params in (("x", "x"), ("x", "y", "x"), ("a", "x", "y", "y")):
            self.assert_refused([procedure(params=params)])

    def test_results(self):
        self.assert_taken([procedure(result="r")])
        self.assert_taken([procedure(result="")])
        self.assert_taken([procedure(result="p")])
        for result in ("x", "y"):
            self.assert_refused([procedure(result=result)])

    def test_names_of_before(self):
        self.assert_taken([procedure(before="x not y, tree x, stretch y nil")])
        for before in ("z is z", "x not y, nil not z", "tree z", "cell x y z", "stretch x z", "cell x z any"):
            self.assert_refused([procedure(before=before)])
        # The result is none of its names, nor are names of the body.
        self.assert_refused([procedure(before="r is r", result="r")])
        self.assert_refused([procedure([("set", "z", "nil")], before="tree z")])
        self.assert_refused([procedure(params=(), before="x is nil")])

    def test_names_of_behind(self):
        self.assert_taken([procedure(behind="x not y, tree x, stretch y nil")])
        self.assert_taken([procedure(behind="r not y, tree x, cell r y any", result="r")])
        for behind in ("z is z", "x not y, nil not z", "tree z", "cell x y z", "stretch x z", "cell x z any"):
            self.assert_refused([procedure(behind=behind)])
            self.assert_refused([procedure(behind=behind, result="r")])
        self.assert_refused([procedure([("set", "z", "nil")], behind="tree z")])
        self.assert_refused([procedure(behind="tree r"), procedure(name="q", result="r")])

    def test_tellings_that_are_none(self):
        good = procedure()
        for reason, handed in NO_TELLINGS:
            with self.subTest(reason=reason):
                self.assert_refused([with_thing_at(good, 3, handed)])
                self.assert_refused([with_thing_at(good, 4, handed)])
                self.assert_refused(program(("while", IS, handed, [])))
                self.assert_refused(program(SET, ("if", IS, [], [("while", IS, handed, [SET])])))
        for handed in ((), ([],), ([], [], [])):
            self.assert_refused([with_thing_at(good, 3, handed)])
            self.assert_refused([with_thing_at(good, 4, handed)])
            self.assert_refused(program(("while", IS, handed, [])))

    def test_tellings_at_the_bounds_of_point_7(self):
        good = procedure()
        for handed in (([("is", "x", "y")] * 8, []), ([], [("tree", "x")] * 6)):
            self.assert_taken([with_thing_at(with_thing_at(good, 3, handed), 4, handed)])
            self.assert_taken(program(("while", IS, handed, [])))

    def test_six_names_and_seven(self):
        sets = [("set", name, "nil") for name in ("a", "b", "c", "d", "e")]
        self.assert_taken([procedure(sets[:4])])
        self.assert_refused([procedure(sets)])
        self.assert_taken([procedure(sets[:3], result="r")])
        self.assert_refused([procedure(sets[:4], result="r")])
        self.assert_taken([procedure(sets[:3] + [("set", "r", "nil")], result="r")])
        self.assert_taken([procedure(sets[:2], params=("x", "y", "z", "w"))])
        self.assert_refused([procedure(sets[:3], params=("x", "y", "z", "w"))])
        # Each place where a seventh name may stand.
        for deed in (("read", "a", "g", "first"), ("write", "g", "first", "a"), ("write", "a", "first", "g"),
                     ("new", "a", "g", "b"), ("new", "a", "b", "g"), ("free", "g"), ("if", ("is", "g", "a"), [], []),
                     ("if", ("is", "a", "g"), [], []), ("while", ("not", "g", "a"), NOTHING, []),
                     ("while", IS, telling("tree g"), []), ("while", IS, telling("a is g"), []),
                     ("while", IS, telling("cell a b g"), []), ("call", "", "p", ("a", "g")),
                     ("if", IS, [("free", "g")], []), ("if", IS, [], [("free", "g")]),
                     ("while", IS, NOTHING, [("free", "g")]), ("set", "g", "a"), ("set", "a", "g")):
            self.assert_taken([procedure(sets[:3] + [deed])])
            self.assert_refused([procedure(sets[:4] + [deed])])
        # Names of procedures and fields are not among them, and other procedures have six of their own.
        self.assert_taken([procedure(sets[:4] + [("call", "", "s", ()), ("read", "a", "x", "first")]),
                           procedure(sets[:4] + [("call", "", "p", ("x", "y"))], name="s", params=())])


class DeedTests(RefusalMixin, unittest.TestCase):
    """Point 23."""

    def test_each_deed(self):
        self.assert_taken(program())
        for deed in GOOD_DEEDS:
            self.assert_taken(program(deed))
        self.assert_taken(program(*GOOD_DEEDS[:13]))

    def test_another_word_or_none(self):
        for deed in GOOD_DEEDS:
            for word in ("", "nil", "x", "Set", "take", "proc", "end", "else", "set ", "free\n", "is", "let"):
                self.assert_refused(program((word,) + deed[1:]))
                self.assert_refused(program(SET, ("if", IS, [SET, (word,) + deed[1:]], [])))
        self.assert_refused(program(()))
        self.assert_refused(program(SET, ()))
        self.assert_refused(program(("while", IS, NOTHING, [()])))

    def test_a_thing_more_or_fewer(self):
        for deed in GOOD_DEEDS:
            for thing in ("x", "first", "nil", "", [], ()):
                self.assert_refused(program(deed + (thing,)))
            for count in range(1, len(deed)):
                self.assert_refused(program(deed[:count]))
                self.assert_refused(program(deed[:count] + deed[count + 1:]))
                self.assert_refused(program(("if", IS, [], [deed[:count]])))

    def test_words_that_are_no_names(self):
        for deed, names, values, fields in DEEDS:
            for place in names + values:
                for word in NO_NAMES:
                    if word != "nil" or place in names:
                        self.assert_refused(program(with_thing_at(deed, place, word)))

    def test_names_in_each_place(self):
        for deed, names, values, fields in DEEDS:
            for place in names + values:
                for word in ("u", "first", "second", "set", "end", "cells", "nil1", "x2345678"):
                    self.assert_taken(program(with_thing_at(deed, place, word)))

    def test_other_fields(self):
        for deed, names, values, fields in DEEDS:
            for place in fields:
                for word in ("", "third", "fir", "firsts", "First", "first ", "x", "nil", "any", "1", "first\n"):
                    self.assert_refused(program(with_thing_at(deed, place, word)))

    def test_conditions(self):
        def an_if(condition):
            return ("if", condition, [], [])

        def a_while(condition):
            return ("while", condition, NOTHING, [])

        for around in (an_if, a_while):
            for condition in (("is", "x", "y"), ("not", "u", "nil"), ("is", "nil", "nil"), ("not", "x", "x")):
                self.assert_taken(program(around(condition)))
            for condition in ((), ("is",), ("is", "x"), ("is", "x", "y", "u"), ("x", "is", "y"), ("", "x", "y"),
                              ("Is", "x", "y"), ("isnt", "x", "y"), ("tree", "x"), ("stretch", "x", "y"),
                              ("any", "x", "y"), ("cell", "x", "y", "u")):
                self.assert_refused(program(around(condition)))
            for word in NO_TEXTS + ("",):
                self.assert_refused(program(around(("is", word, "x"))))
                self.assert_refused(program(around(("not", "x", word))))

    def test_deeds_in_others(self):
        bad = ("free", "nil")
        for deed in (("if", IS, [bad], []), ("if", IS, [], [bad]), ("if", IS, [SET, bad], [SET]),
                     ("while", IS, NOTHING, [bad]), ("while", IS, NOTHING, [SET, bad]), within(bad, 4)):
            self.assert_refused(program(deed))

    def test_other_kinds_in_place_of_lists_and_tellings(self):
        for deed in (("if", IS, NOTHING, [SET]), ("if", IS, [SET], NOTHING), ("while", IS, [SET], [SET]),
                     ("while", IS, NOTHING, NOTHING), ("while", NOTHING, IS, []), ("call", "u", "q", ["x"]),
                     ("if", [SET], [SET], []), ("call", "q", "u", ("x",))):
            self.assert_refused(program(deed))


class ParamTests(RefusalMixin, unittest.TestCase):
    """Point 24: no deed gives a param a value."""

    def test_params_that_get_a_value(self):
        for param in ("x", "y"):
            for deed in (("set", param, "nil"), ("set", param, param), ("read", param, "u", "first"),
                         ("new", param, "nil", "nil"), ("call", param, "q", ("nil",))):
                self.assert_refused(program(deed))
                self.assert_refused(program(within(deed, 3)))
                self.assert_refused(program(("if", IS, [], [deed])))
                self.assert_taken(program(with_thing_at(deed, 1, "u")))

    def test_params_that_are_named_otherwise(self):
        self.assert_taken(program(("write", "x", "first", "y"), ("free", "x"), ("call", "", "p", ("x", "y"))))

    def test_results_may_get_a_value(self):
        deeds = [("set", "r", "nil"), ("read", "r", "x", "first"), ("new", "r", "r", "r"),
                 ("call", "r", "p", ("r", "r"))]
        self.assert_taken([procedure(deeds, result="r")])

    def test_params_of_others_may_get_a_value(self):
        self.assert_taken([procedure([("set", "z", "nil")]), procedure(name="q", params=("z",))])


class SizeTests(RefusalMixin, unittest.TestCase):
    """Point 24: how many deeds, and within how many others."""

    def test_thirty_deeds_and_thirty_one(self):
        self.assert_taken([procedure([SET] * 30)])
        self.assert_refused([procedure([SET] * 31)])
        self.assert_taken([procedure([SET] * 10), procedure([SET] * 10, name="q"), procedure([SET] * 10, name="s")])
        self.assert_refused([procedure([SET] * 10), procedure([SET] * 11, name="q"), procedure([SET] * 10, name="s")])

    def test_those_in_others_are_counted(self):
        for deed in (("if", IS, [SET] * 9, []), ("if", IS, [], [SET] * 9), ("if", IS, [SET] * 4, [SET] * 5),
                     ("while", IS, NOTHING, [SET] * 9), ("if", IS, [("while", IS, NOTHING, [SET] * 8)], [])):
            self.assert_taken([procedure([deed] * 3)])
            self.assert_refused([procedure([deed] * 3 + [SET])])
            self.assert_refused([procedure([deed] * 3), procedure([("if", IS, [], [])], name="q")])

    def test_within_four_others(self):
        for deed in (SET, ("free", "x"), ("if", IS, [], []), ("while", IS, NOTHING, []), ("call", "", "s", ())):
            for count in range(5):
                self.assert_taken(program(within(deed, count)))
            for count in (5, 6, 9):
                self.assert_refused(program(within(deed, count)))
        second = ("if", IS, [], [("if", IS, [], [("if", IS, [], [("if", IS, [], [SET])])])])
        self.assert_taken(program(second))
        self.assert_refused(program(("if", IS, [], [second])))
        self.assert_refused(program(("if", IS, [], []), ("while", IS, NOTHING, [second])))


class CallTests(RefusalMixin, unittest.TestCase):
    """Points 23 and 24: calls."""

    def test_a_procedure_that_is_none(self):
        for name in ("t", "x", "u", "P", "", "nil", "any"):
            self.assert_refused(program(("call", "", name, ())))
            self.assert_refused(program(within(("call", "u", name, ("x",)), 2)))
        self.assert_refused([procedure([("call", "", "q", ())])])

    def test_procedures_ahead_and_behind_and_itself(self):
        call = ("call", "", "q", ("x", "y"))
        for names in (("p", "q"), ("q", "p")):
            self.assert_taken([procedure([call], name=name) for name in names])

    def test_values_more_or_fewer(self):
        for deed in (("call", "u", "q", ()), ("call", "u", "q", ("x", "y")), ("call", "", "s", ("x",)),
                     ("call", "", "p", ()), ("call", "", "p", ("x",)), ("call", "", "p", ("x", "y", "x")),
                     ("call", "", "p", ("x", "y", "nil", "nil", "nil"))):
            self.assert_refused(program(deed))

    def test_results(self):
        for deed in (("call", "", "q", ("x",)), ("call", "u", "s", ()), ("call", "u", "p", ("x", "y"))):
            self.assert_refused(program(deed))
            self.assert_refused(program(within(deed, 4)))

    def test_words_that_are_no_names(self):
        for word in NO_NAMES:
            if word != "":
                self.assert_refused(program(("call", word, "q", ("x",))))
                self.assert_refused(program(("call", word, "s", ())))
            if word != "nil":
                self.assert_refused(program(("call", "u", "q", (word,))))
                self.assert_refused(program(("call", "", "p", ("x", word))))

    def test_a_later_call_is_looked_at(self):
        self.assert_refused(program(("call", "", "s", ()), ("call", "", "s", ("x",))))
        self.assert_refused(program() + [procedure([("call", "", "t", ())], name="z")])


class ChanceTests(RefusalMixin, unittest.TestCase):
    def test_programs_by_chance(self):
        chance = random.Random(22)
        for count in range(300):
            self.assert_taken(some_program(chance))


class NamesTests(unittest.TestCase):
    """Point 22: names_in."""

    def assert_names(self, handed, names):
        told = names_in(handed)
        self.assertEqual(told, names)
        self.assertIs(type(told), list)

    def test_heads(self):
        self.assert_names(procedure(params=()), [])
        self.assert_names(procedure(), ["x", "y"])
        self.assert_names(procedure(params=("b", "a"), result="aa"), ["a", "aa", "b"])
        self.assert_names(procedure(params=("x",), result="r", before="x is nil", behind="cell r any x"), ["r", "x"])

    def test_each_deed(self):
        for deed, names in (
                (("set", "b", "a"), ["a", "b"]), (("set", "b", "nil"), ["b"]), (("set", "b", "b"), ["b"]),
                (("read", "b", "a", "first"), ["a", "b"]), (("read", "second", "first", "first"), ["first", "second"]),
                (("write", "b", "second", "a"), ["a", "b"]), (("write", "b", "first", "first"), ["b", "first"]),
                (("new", "c", "b", "a"), ["a", "b", "c"]), (("new", "c", "nil", "nil"), ["c"]), (("free", "a"), ["a"]),
                (("if", ("is", "b", "a"), [], []), ["a", "b"]), (("if", ("not", "nil", "nil"), [], []), []),
                (("if", ("is", "nil", "nil"), [("free", "b")], [("free", "a")]), ["a", "b"]),
                (("while", ("not", "b", "a"), NOTHING, []), ["a", "b"]),
                (("while", ("is", "nil", "nil"), telling("c is nil, cell b any a"), []), ["a", "b", "c"]),
                (("while", ("is", "nil", "nil"), telling("tree any1, stretch b a"), []), ["a", "any1", "b"]),
                (("while", ("is", "nil", "nil"), NOTHING, [("free", "b"), ("free", "a")]), ["a", "b"]),
                (("call", "", "q", ()), []), (("call", "b", "q", ("a", "nil", "c")), ["a", "b", "c"]),
                (("call", "", "q", ("nil",)), []), (("call", "q", "s", ()), ["q"]),
                (within(("set", "b", "a"), 4), ["a", "b", "x"]),
        ):
            self.assert_names(procedure([deed], params=()), names)
            self.assert_names(procedure([deed, deed], params=("a0",), result="z"), sorted(["a0", "z"] + names))

    def test_sorted_and_each_once(self):
        body = [("set", "z", "y"), ("set", "a9", "z"), ("set", "a10", "x"), ("if", ("is", "b", "z"), [], [])]
        self.assert_names(procedure(body), ["a10", "a9", "b", "x", "y", "z"])

    def test_no_word_that_is_no_name(self):
        chance = random.Random(23)
        for count in range(200):
            for each in some_program(chance):
                told = names_in(each)
                self.assertEqual(told, sorted(set(told)))
                self.assertFalse(set(told) & set(TEN_WORDS + ("",)))
                self.assertLessEqual(set(each[1]), set(told))


class OwnTests(unittest.TestCase):
    """Point 2."""

    def test_nothing_that_is_handed_in_is_changed(self):
        chance = random.Random(24)
        for count in range(50):
            handed = some_program(chance)
            before = copy.deepcopy(handed)
            check_program(handed)
            for each in handed:
                names_in(each)
            self.assertEqual(handed, before)
            self.assertEqual(len(lists_of(handed)), len(lists_of(before)))

    def test_each_answer_is_the_askers_own(self):
        handed = procedure([("set", "z", "y")])
        empty(names_in(handed))
        self.assertEqual(names_in(handed), ["x", "y", "z"])


if __name__ == "__main__":
    unittest.main()
