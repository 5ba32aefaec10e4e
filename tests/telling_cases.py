"""What the tests of several modules need: names and none, tellings and none."""

from apart.errors import ApartError, NoName, NoProgram, NoRow, NoTelling, NoText, NoValue
from apart.tellings import names_of

LETTERS = "abcdefghijklmnopqrstuvwxyz"
FIGURES = "0123456789"
# What may be handed in are the signs from the blank to the tilde but the percent sign, and line ends.
OTHER_SIGNS = " !\"#$&'()*+,-./:;<=>?@[\\]^_`{|}~\n"
TEN_WORDS = ("nil", "any", "is", "not", "cell", "stretch", "tree", "nothing", "then", "with")

LIKE_THE_TEN = (
    "ni", "il", "nils", "nill", "anil", "nil0", "nilnil", "an", "ny", "anyy", "many", "any1", "anyany",
    "i", "s", "iss", "his", "is2", "no", "ot", "nott", "knot", "not1", "notnot", "isnot",
    "cel", "ell", "cells", "xcell", "cell1", "stretc", "tretch", "stretchy", "xstretch", "stretch1",
    "tre", "ree", "trees", "street", "tree2", "nothin", "othing", "nothings", "xnothing", "nothing0",
    "the", "hen", "thens", "athen", "then3", "wit", "ith", "withs", "herewith", "with4",
)
OTHER_WORDS = (
    "first", "second", "end", "proc", "gives", "before", "behind", "set", "read", "write", "new", "free", "call",
    "take", "if", "else", "while", "look", "run", "follows", "on", "fall", "and", "or", "in", "none", "null", "true",
    "list", "part", "fact", "heap", "def", "class", "for", "pass",
)
GOOD_NAMES = (
    tuple(LETTERS)
    + tuple("x" + sign for sign in LETTERS + FIGURES)
    + tuple("x" * count for count in range(1, 9))
    + ("abcdefgh", "ijklmnop", "qrstuvwx", "yz012345", "z6789012", "a0000000", "x1y2z3w4", "a9", "z0")
    + LIKE_THE_TEN
    + OTHER_WORDS
)

GREAT_LETTERS = ("X", "Z", "A", "Xy", "xY", "xyZ", "aBc", "Nil", "NIL", "Any", "IS", "Tree", "xxxxxxxX")
LONG = ("x" * 9, "abcdefghi", "x12345678", "x" * 10, "x" * 60, "x" * 3000, "nothingxx", "stretches")
FIGURE_FIRST = tuple(FIGURES) + tuple(sign + "x" for sign in FIGURES) + ("12345678", "1nil", "0x1")
WITH_OTHER_SIGNS = (
    tuple(OTHER_SIGNS)
    + tuple(sign + "x" for sign in OTHER_SIGNS)
    + tuple("x" + sign for sign in OTHER_SIGNS)
    + tuple("x" + sign + "y" for sign in OTHER_SIGNS)
    + ("xxxxxxxx\n", "xxxxxxx\n", "nil\n", "any\n", "\nnil", "nil ", " nil", "x\n\n", "x y", "x, y")
)
# These stand for no value, wherever one may stand; nil does, and any may in a cell.
NO_VALUES = (
    ("",) + LONG + FIGURE_FIRST + GREAT_LETTERS + WITH_OTHER_SIGNS
    + tuple(word for word in TEN_WORDS if word not in ("nil", "any"))
)

ROWS = (
    (0, ("is", "x", "y")),
    (0, ("not", "x", "y")),
    (1, ("cell", "x", "y", "z")),
    (1, ("stretch", "x", "y")),
    (1, ("tree", "x")),
)
# Each place where a value may stand: which list, the row, the place in it.
PLACES = tuple((kind, row, place) for kind, row in ROWS for place in range(1, len(row)))

NINE_NAMES = ("a", "b", "c", "d", "e", "f", "g", "h", "i9")

OTHER_REFUSALS = (NoValue, NoProgram, NoRow, NoName, NoText)


def with_word_at(kind, row, place, word):
    """The telling of this one row, with the word in that place."""
    changed = row[:place] + (word,) + row[place + 1:]
    return ([changed], []) if kind == 0 else ([], [changed])


def one_row(kind, row):
    return ([row], []) if kind == 0 else ([], [row])


def full_telling():
    """Eight facts, six parts, eight names; nil and any beside."""
    facts = [("is", "a", "b"), ("not", "c", "nil"), ("is", "nil", "d"), ("not", "e", "f"),
             ("is", "g", "g"), ("not", "a", "h"), ("is", "nil", "nil"), ("is", "a", "b")]
    parts = [("cell", "a", "any", "b"), ("cell", "c", "nil", "any"), ("cell", "d", "any", "any"),
             ("stretch", "e", "f"), ("tree", "g"), ("stretch", "h", "nil")]
    return (facts, parts)


def forty_facts():
    facts = []
    for count in range(20):
        facts.append(("is", NINE_NAMES[count % 8], NINE_NAMES[count % 3]))
        facts.append(("not", NINE_NAMES[count % 5], "nil"))
    return facts


# Each with the name of what is broken.
NO_TELLINGS = (
    ("nine facts", ([("is", "x", "y")] * 9, [])),
    ("nine facts that differ", ([("is", "x", name) for name in NINE_NAMES[:8]] + [("not", "x", "nil")], [])),
    ("nine facts of nil", ([("is", "nil", "nil")] * 9, [])),
    ("nine facts and a part", ([("not", "x", "y")] * 9, [("tree", "x")])),
    ("forty facts", (forty_facts(), [])),
    ("seven parts", ([], [("tree", "x")] * 7)),
    ("seven parts of nil", ([], [("tree", "nil")] * 7)),
    ("seven parts that differ", ([], [("cell", name, "any", "nil") for name in NINE_NAMES[:7]])),
    ("eight parts", ([], [("stretch", "x", "y")] * 8)),
    ("nine names in facts", ([("is", name, "nil") for name in NINE_NAMES[:7]] + [("is", "h", "i9")], [])),
    ("nine names in parts", ([], [("cell", "a", "b", "c"), ("cell", "d", "e", "f"), ("cell", "g", "h", "i9")])),
    ("a ninth name in a part", ([("is", name, name) for name in NINE_NAMES[:8]], [("tree", "i9")])),
    ("a ninth name as a stretch's end", ([("is", name, name) for name in NINE_NAMES[:8]], [("stretch", "a", "i9")])),
    ("a ninth name as a second value", ([("is", name, name) for name in NINE_NAMES[:8]], [("cell", "a", "any", "i9")])),
    ("a ninth name in a fact", ([("not", "nil", "i9")],
                                [("cell", "a", "b", "c"), ("cell", "d", "e", "f"), ("stretch", "g", "h")])),
    ("another word of a fact", ([("isnt", "x", "y")], [])),
    ("a great word of a fact", ([("IS", "x", "y")], [])),
    ("no word of a fact", ([("", "x", "y")], [])),
    ("a name as a fact's word", ([("x", "is", "y")], [])),
    ("nothing as a fact's word", ([("nothing", "x", "y")], [])),
    ("any as a fact's word", ([("any", "x", "y")], [])),
    ("a line end behind a fact's word", ([("is\n", "x", "y")], [])),
    ("a bad fact behind a good one", ([("is", "x", "y"), ("then", "x", "y")], [])),
    ("a bad fact ahead of a good one", ([("with", "x", "y"), ("is", "x", "y")], [])),
    ("another word of a part", ([], [("list", "x", "y")])),
    ("another word of a part of two", ([], [("trees", "x")])),
    ("another word of a part of four", ([], [("cells", "x", "y", "z")])),
    ("a great word of a part", ([], [("Tree", "x")])),
    ("no word of a part", ([], [("", "x")])),
    ("nothing as a part", ([], [("nothing",)])),
    ("nothing as a part's word", ([], [("nothing", "x")])),
    ("a name as a part's word", ([], [("x", "y")])),
    ("a line end behind a part's word", ([], [("tree\n", "x")])),
    ("a bad part behind a good one", ([], [("tree", "x"), ("tree", "any")])),
    ("a bad part ahead of a good one", ([], [("cell", "any", "x", "y"), ("tree", "x")])),
    ("a fact of its word alone", ([("is",)], [])),
    ("a fact of two", ([("is", "x")], [])),
    ("a not of two", ([("not", "x")], [])),
    ("a fact of four", ([("is", "x", "y", "z")], [])),
    ("a not of four", ([("not", "x", "y", "nil")], [])),
    ("a cell of its word alone", ([], [("cell",)])),
    ("a cell of two", ([], [("cell", "x")])),
    ("a cell of three", ([], [("cell", "x", "y")])),
    ("a cell of five", ([], [("cell", "x", "y", "z", "w")])),
    ("a cell of five with any", ([], [("cell", "x", "any", "any", "any")])),
    ("a stretch of its word alone", ([], [("stretch",)])),
    ("a stretch of two", ([], [("stretch", "x")])),
    ("a stretch of four", ([], [("stretch", "x", "y", "z")])),
    ("a tree of its word alone", ([], [("tree",)])),
    ("a tree of three", ([], [("tree", "x", "y")])),
    ("a tree of four", ([], [("tree", "x", "y", "z")])),
    ("an empty row among the facts", ([()], [])),
    ("an empty row among the parts", ([], [()])),
    ("an empty row behind a fact", ([("is", "x", "y"), ()], [])),
    ("an empty row behind a part", ([], [("tree", "x"), ()])),
    ("a cell among the facts", ([("cell", "x", "y", "z")], [])),
    ("a stretch among the facts", ([("stretch", "x", "y")], [])),
    ("a tree among the facts", ([("tree", "x")], [])),
    ("an is among the parts", ([], [("is", "x", "y")])),
    ("a not among the parts", ([], [("not", "x", "y")])),
    ("facts and parts in the wrong lists", ([("tree", "x")], [("is", "x", "y")])),
)
# No text writes these.
NO_PAIRS = (
    ("no list", ()),
    ("one list", ([],)),
    ("one list of facts", ([("is", "x", "y")],)),
    ("three lists", ([], [], [])),
    ("three lists with rows", ([("is", "x", "y")], [("tree", "x")], [])),
    ("three lists, a row in the last", ([], [], [("tree", "x")])),
    ("four lists", ([], [], [], [])),
)


class RefusalMixin:
    def assert_no_telling(self, asked, *handed):
        """Refused with NoTelling, which is an ApartError and a ValueError and none of the others."""
        with self.assertRaises(NoTelling) as caught:
            asked(*handed)
        self.assertIsInstance(caught.exception, ApartError)
        self.assertIsInstance(caught.exception, ValueError)
        self.assertNotIsInstance(caught.exception, OTHER_REFUSALS)


def some_fact(chance, words):
    return (chance.choice(("is", "not", "not")), chance.choice(words), chance.choice(words))


def some_part(chance, words):
    kind = chance.choice(("cell", "cell", "stretch", "stretch", "tree"))
    if kind == "cell":
        return (kind, chance.choice(words), chance.choice(words + ["any"]), chance.choice(words + ["any"]))
    return (kind, chance.choice(words)) + ((chance.choice(words),) if kind == "stretch" else ())


def some_telling(chance, names, most_facts, most_parts):
    """A telling of these names (not all of them need be there) and nil."""
    words = list(names) + ["nil"]
    facts = [some_fact(chance, words) for count in range(chance.randint(0, most_facts))]
    parts = [some_part(chance, words) for count in range(chance.randint(0, most_parts))]
    return (facts, parts)


class Reference:
    """What is known of facts and parts, found from points 12 to 14 by trying all pairs again and again."""

    def __init__(self, facts, parts, names):
        self.parts = parts
        self.words = sorted({"nil"} | set(names) | set(names_of((facts, parts))))
        self.pairs = [(a, b) for a in self.words for b in self.words]
        self.is_so = {(a, a) for a in self.words}
        self.not_so = set()
        self.facts = facts
        before = None
        while before != (len(self.is_so), len(self.not_so)):
            before = (len(self.is_so), len(self.not_so))
            self.is_so |= {(a, b) for a, b in self.pairs if ("is", a, b) in facts or ("is", b, a) in facts}
            self.is_so |= {(a, c) for a, b in self.pairs for c in self.words if self.alike(a, b) and self.alike(b, c)}
            self.not_so |= {(a, b) for a, b in self.pairs if self.must_be_unlike(a, b)}

    def alike(self, a, b):
        return (a, b) in self.is_so

    def unlike(self, a, b):
        return (a, b) in self.not_so

    def empty(self, number):
        part = self.parts[number]
        return {"cell": False, "stretch": self.alike(part[1], part[-1]), "tree": self.alike(part[1], "nil")}[part[0]]

    def full(self, number):
        part = self.parts[number]
        return {"cell": True, "stretch": self.unlike(part[1], part[-1]), "tree": self.unlike(part[1], "nil")}[part[0]]

    def full_ones(self):
        return [number for number in range(len(self.parts)) if self.full(number)]

    def not_empty_ones(self):
        return [number for number in range(len(self.parts)) if not self.empty(number)]

    def must_be_unlike(self, a, b):
        for word, x, y in self.facts:
            for c, d in ((x, y), (y, x)):
                if word == "not" and self.alike(a, c) and self.alike(b, d):
                    return True
        for one in self.full_ones():
            place = self.parts[one][1]
            for c, d in ((a, b), (b, a)):
                if self.alike(c, place) and self.alike(d, "nil"):
                    return True
                for other in self.full_ones():
                    if one != other and self.alike(c, place) and self.alike(d, self.parts[other][1]):
                        return True
        return False

    def clash(self):
        if self.is_so & self.not_so:
            return True
        places = [self.parts[number][1] for number in self.full_ones()]
        if any(self.alike(place, "nil") for place in places):
            return True
        return any(self.alike(places[k], places[j]) for k in range(len(places)) for j in range(k))

    def ready(self):
        places = [self.parts[number][1] for number in self.not_empty_ones()]
        if any(self.alike(place, "nil") for place in places):
            return False
        return not any(self.alike(places[k], places[j]) for k in range(len(places)) for j in range(k))

    def open_pairs(self):
        """All pairs that point 14 lets be told."""
        told = []
        for number in self.not_empty_ones():
            part = self.parts[number]
            others = [self.parts[other][1] for other in self.not_empty_ones() if other != number]
            if part[0] != "cell" and any(self.alike(part[1], word) for word in others + ["nil"]):
                a, b = (part[1], part[2]) if part[0] == "stretch" else (part[1], "nil")
                if not self.alike(a, b) and not self.unlike(a, b):
                    told.extend([(a, b), (b, a)])
        return told
