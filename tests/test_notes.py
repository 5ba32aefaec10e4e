import copy
import unittest

from apart.notes import read_telling, show_telling
from apart.tellings import check_telling
from telling_cases import (
    GOOD_NAMES, NO_TELLINGS, NO_VALUES, PLACES, ROWS, RefusalMixin, forty_facts, full_telling, one_row, with_word_at,
)

FULL_TEXT = (
    "a is b, c not nil, nil is d, e not f, g is g, a not h, nil is nil, a is b, "
    "cell a any b, cell c nil any, cell d any any, stretch e f, tree g, stretch h nil"
)
WRITTEN = (
    ("nothing", ([], [])),
    ("x not y, cell x any y, stretch y nil", ([("not", "x", "y")], [("cell", "x", "any", "y"), ("stretch", "y", "nil")])),
    ("x is y", ([("is", "x", "y")], [])),
    ("y is x", ([("is", "y", "x")], [])),
    ("x not y", ([("not", "x", "y")], [])),
    ("nil not x", ([("not", "nil", "x")], [])),
    ("nil is nil", ([("is", "nil", "nil")], [])),
    ("cell x y z", ([], [("cell", "x", "y", "z")])),
    ("cell nil any any", ([], [("cell", "nil", "any", "any")])),
    ("stretch x y", ([], [("stretch", "x", "y")])),
    ("stretch nil nil", ([], [("stretch", "nil", "nil")])),
    ("tree x", ([], [("tree", "x")])),
    ("tree nil", ([], [("tree", "nil")])),
    ("tree x, tree x", ([], [("tree", "x"), ("tree", "x")])),
    ("tree y, tree x", ([], [("tree", "y"), ("tree", "x")])),
    ("x is y, x is y", ([("is", "x", "y"), ("is", "x", "y")], [])),
    ("z not y, a is b", ([("not", "z", "y"), ("is", "a", "b")], [])),
    ("x is y, tree x", ([("is", "x", "y")], [("tree", "x")])),
    ("stretch1 is nilx, tree trees", ([("is", "stretch1", "nilx")], [("tree", "trees")])),
    (FULL_TEXT, full_telling()),
)

NO_TEXTS = (
    # The text without signs, and blanks and commas alone.
    "", " ", "  ", ",", ", ", ", , ", ",,", "\n",
    # Two blanks.
    "x  is y", "x is  y", "tree  x", "cell x  any y", "cell  x any y", "cell x any  y", "stretch x  nil",
    "x is y,  tree x", "x is y,  z is y",
    # A blank ahead or behind, or ahead of a comma.
    " x is y", "x is y ", " tree x", "tree x ", " x is y, tree x", "x is y, tree x ", "x is y , tree x",
    "tree x , tree y", " nothing", "nothing ",
    # A comma without a blank.
    "x is y,tree x", "tree x,tree y", "x is y,z is y", "x is y, tree x,tree y", "x is y,tree x, tree y",
    # A comma more.
    "x is y,", "x is y, ", ",x is y", ", x is y", "x is y,, tree x", "x is y, , tree x", "tree x,", "tree x, ",
    ", tree x", "x, is y", "x is, y", "tree, x", "cell x, any y", "stretch x, y",
    # A line end.
    "x\nis y", "x is\ny", "tree\nx", "x is y,\ntree x", "x is y\ntree x", "x is y,\n tree x", "x is y, \ntree x",
    "x is y\n", "tree x\n", "\nx is y", "\ntree x", "cell x any\ny", "cell x any any\n", "stretch x nil\n",
    "x is nil\n", "nothing\n", "\nnothing", "x is y\n, tree x",
    # Nothing beside other things, and what is like it.
    "nothing, nothing", "nothing, x is y", "x is y, nothing", "nothing, tree x", "tree x, nothing",
    "x is y, nothing, tree x", "nothing x", "x nothing", "nothing,", "nothing, ", ", nothing", "nothing nothing",
    "Nothing", "NOTHING", "nothin", "nothings", "nothing is x", "x is nothing", "tree nothing",
    # Words alone, or in another order.
    "x", "nil", "any", "is", "not", "cell", "stretch", "tree", "then", "with",
    "is x y", "not x y", "x y is", "x y not", "x tree", "x cell any y", "x stretch y", "x is", "is x", "x y", "x not",
    "x is is", "is is is", "is is x", "x is not", "x is not y", "x not is", "not not not", "x is y z", "x is y is z",
    "stretch is x", "stretch x is", "stretch not x", "tree is x", "x is tree", "cell is x", "cell x is y",
    # Other words and other marks between.
    "x isnt y", "x IS y", "x eq y", "x = y", "x == y", "x equals y", "list x", "trees x", "Tree x", "CELL x any y",
    "x is y; tree x", "x is y. tree x", "x is y and tree x", "x is y then tree x", "x is y * tree x", "x is y tree x",
    "tree x tree y", "(x is y)", "'tree x'", "x is y.",
    # A thing more or fewer.
    "tree x y", "tree x y z", "stretch x", "stretch x y z", "cell x", "cell x y", "cell x y z w",
    "cell x any any any", "x is y y", "tree x nil",
    # Any where it may not stand.
    "any is x", "x is any", "any not x", "x not any", "cell any x y", "cell any any any", "stretch any x",
    "stretch x any", "tree any",
)

# Behind a good piece, ahead of one and amid two, so that no place is passed over.
BESIDE = ("{}, tree w", "tree w, {}", "w is nil, {}", "w is nil, {}, tree w")


def as_text(telling):
    """The text of a telling or of what is like one; none where a fact has no word to stand amid."""
    pieces = []
    for fact in telling[0]:
        if len(fact) < 2:
            return None
        pieces.append(" ".join(fact[1:2] + fact[:1] + fact[2:]))
    pieces.extend(" ".join(part) for part in telling[1])
    return ", ".join(pieces)


class ShowTests(unittest.TestCase):
    def test_shown(self):
        for text, telling in WRITTEN:
            with self.subTest(text=text):
                self.assertEqual(show_telling(telling), text)

    def test_facts_stand_ahead_of_parts_each_in_their_order(self):
        telling = ([("not", "z", "a"), ("is", "a", "z")], [("tree", "z"), ("cell", "a", "any", "nil")])
        self.assertEqual(show_telling(telling), "z not a, a is z, tree z, cell a any nil")

    def test_forty_facts_are_shown(self):
        facts = forty_facts()
        expected = ", ".join(f"{a} {word} {b}" for word, a, b in facts)
        self.assertEqual(show_telling((facts, [])), expected)
        self.assertEqual(show_telling((facts, [("tree", "a")])), expected + ", tree a")
        self.assertEqual(show_telling((facts[:9], [])), ", ".join(f"{a} {word} {b}" for word, a, b in facts[:9]))


class ReadTests(RefusalMixin, unittest.TestCase):
    def assert_kinds(self, telling):
        self.assertIs(type(telling), tuple)
        self.assertEqual([type(rows) for rows in telling], [list, list])
        for rows in telling:
            for row in rows:
                self.assertIs(type(row), tuple)
                self.assertTrue(all(type(word) is str for word in row))

    def test_read(self):
        for text, telling in WRITTEN:
            with self.subTest(text=text):
                self.assertEqual(read_telling(text), telling)
                self.assert_kinds(read_telling(text))

    def test_shown_and_read_again(self):
        tellings = [telling for text, telling in WRITTEN] + [one_row(kind, row) for kind, row in ROWS]
        for kind, row, place in PLACES:
            tellings.extend(with_word_at(kind, row, place, name) for name in GOOD_NAMES + ("nil",))
        for telling in tellings:
            with self.subTest(telling=telling):
                check_telling(telling)
                self.assertEqual(read_telling(show_telling(telling)), telling)

    def test_read_and_shown_again(self):
        for text, telling in WRITTEN:
            with self.subTest(text=text):
                self.assertEqual(show_telling(read_telling(text)), text)

    def test_facts_and_parts_in_any_order(self):
        expected = ([("not", "x", "y"), ("is", "z", "nil")], [("cell", "x", "any", "y"), ("stretch", "y", "nil")])
        for text in (
            "x not y, z is nil, cell x any y, stretch y nil",
            "x not y, cell x any y, z is nil, stretch y nil",
            "x not y, cell x any y, stretch y nil, z is nil",
            "cell x any y, x not y, z is nil, stretch y nil",
            "cell x any y, x not y, stretch y nil, z is nil",
            "cell x any y, stretch y nil, x not y, z is nil",
        ):
            with self.subTest(text=text):
                self.assertEqual(read_telling(text), expected)
        self.assertEqual(show_telling(read_telling("tree x, x is y")), "x is y, tree x")

    def test_facts_keep_their_order_and_parts_theirs(self):
        self.assertEqual(
            read_telling("tree z, z is a, tree a, b not a, cell m any nil, a is a"),
            ([("is", "z", "a"), ("not", "b", "a"), ("is", "a", "a")], [("tree", "z"), ("tree", "a"), ("cell", "m", "any", "nil")]),
        )

    def test_bounds_are_taken(self):
        self.assertEqual(read_telling(", ".join(["x is y"] * 8)), ([("is", "x", "y")] * 8, []))
        self.assertEqual(read_telling(", ".join(["tree x"] * 6)), ([], [("tree", "x")] * 6))
        self.assertEqual(read_telling(FULL_TEXT), full_telling())

    def test_beyond_the_bounds_is_refused(self):
        for more in ("a is b", "tree a"):
            self.assert_no_telling(read_telling, FULL_TEXT + ", " + more)
            self.assert_no_telling(read_telling, more + ", " + FULL_TEXT)
        self.assert_no_telling(read_telling, FULL_TEXT.replace("tree g", "tree i9"))
        self.assert_no_telling(read_telling, FULL_TEXT.replace("a not h", "a not i9"))

    def test_forty_facts_that_are_shown_are_none_when_read(self):
        self.assert_no_telling(read_telling, show_telling((forty_facts(), [])))

    def test_texts_that_are_none(self):
        for text in NO_TEXTS:
            with self.subTest(text=text):
                self.assert_no_telling(read_telling, text)

    def test_texts_that_are_none_beside_pieces_that_are(self):
        for text in NO_TEXTS + ("nothing",):
            for beside in BESIDE:
                with self.subTest(text=text, beside=beside):
                    self.assert_no_telling(read_telling, beside.replace("{}", text))

    def test_texts_with_what_is_no_name(self):
        for kind, row, place in PLACES:
            for word in NO_VALUES:
                text = as_text(with_word_at(kind, row, place, word))
                with self.subTest(text=text):
                    self.assert_no_telling(read_telling, text)

    def test_texts_that_write_what_is_refused(self):
        written = 0
        for broken, telling in NO_TELLINGS:
            text = as_text(telling)
            # The text `nothing` writes the telling without facts and parts.
            if text is None or text == "nothing":
                continue
            written += 1
            with self.subTest(broken=broken, text=text):
                self.assert_no_telling(read_telling, text)
        self.assertGreater(written, 40)

    def test_long_texts_are_refused_like_others(self):
        for text in ("x" * 4000, "x is y, " * 500, " " * 4000, ", " * 2000, "nothing" * 571, "x is " * 800, "\n" * 4000):
            self.assert_no_telling(read_telling, text)


class OwnTests(unittest.TestCase):
    """Point 2."""

    def test_show_changes_nothing(self):
        for text, telling in WRITTEN:
            before = copy.deepcopy(telling)
            show_telling(telling)
            self.assertEqual(telling, before)

    def test_what_is_read_is_the_askers_own(self):
        for text, expected in WRITTEN:
            with self.subTest(text=text):
                one = read_telling(text)
                other = read_telling(text)
                self.assertFalse(any(rows is theirs for rows in one for theirs in other))
                self.assertIsNot(one[0], one[1])
                one[0].append(("is", "late", "nil"))
                one[1].clear()
                self.assertEqual(other, expected)
                self.assertEqual(read_telling(text), expected)

    def test_a_changed_telling_is_shown_anew(self):
        telling = ([], [])
        self.assertEqual(show_telling(telling), "nothing")
        telling[1].append(("tree", "x"))
        self.assertEqual(show_telling(telling), "tree x")
        telling[0].append(("is", "x", "y"))
        self.assertEqual(show_telling(telling), "x is y, tree x")
        telling[1].clear()
        self.assertEqual(show_telling(telling), "x is y")


if __name__ == "__main__":
    unittest.main()
