"""What the tests of several modules need: names, tellings and programs, checkers of papers and states."""

import itertools

from apart.covers import fits
from apart.errors import ApartError, NoName, NoProgram, NoRow, NoTelling, NoText, NoValue
from apart.tellings import names_of

LETTERS = "abcdefghijklmnopqrstuvwxyz"
FIGURES = "0123456789"
# What may be handed in are the signs from the blank to the tilde but the percent sign, and line ends.
OTHER_SIGNS = " !\"#$&'()*+,-./:;<=>?@[\\]^_`{|}~\n"
TEN_WORDS = ("nil", "any", "is", "not", "cell", "stretch", "tree", "nothing", "then", "with")

LIKE_THE_TEN = (
    "ni", "il", "nils", "nill", "anil", "nil0", "nilnil", "an", "ny", "anyy", "many", "any1", "anyany",
    "i", "s", "iss", "his", "is2", "no", "ot", "nott", "knot", "not1", "notnot", "isnot",
    "cel", "ell", "cells", "xcell", "cell1", "stretc", "tretch", "stretchy", "xstretch", "stretch1",
    "tre", "ree", "trees", "street", "tree2", "nothin", "othing", "nothings", "xnothing", "nothing0",
    "the", "hen", "thens", "athen", "then3", "wit", "ith", "withs", "herewith", "with4",
)
OTHER_WORDS = (
    "first", "second", "end", "proc", "gives", "before", "behind", "set", "read", "write", "new", "free", "call",
    "take", "if", "else", "while", "look", "run", "follows", "on", "fall", "and", "or", "in", "none", "null", "true",
    "list", "part", "fact", "heap", "def", "class", "for", "pass",
)
GOOD_NAMES = (
    tuple(LETTERS)
    + tuple("x" + sign for sign in LETTERS + FIGURES)
    + tuple("x" * count for count in range(1, 9))
    + ("abcdefgh", "ijklmnop", "qrstuvwx", "yz012345", "z6789012", "a0000000", "x1y2z3w4", "a9", "z0")
    + LIKE_THE_TEN
    + OTHER_WORDS
)

GREAT_LETTERS = ("X", "Z", "A", "Xy", "xY", "xyZ", "aBc", "Nil", "NIL", "Any", "IS", "Tree", "xxxxxxxX")
LONG = ("x" * 9, "abcdefghi", "x12345678", "x" * 10, "x" * 60, "x" * 3000, "nothingxx", "stretches")
FIGURE_FIRST = tuple(FIGURES) + tuple(sign + "x" for sign in FIGURES) + ("12345678", "1nil", "0x1")
WITH_OTHER_SIGNS = (
    tuple(OTHER_SIGNS)
    + tuple(sign + "x" for sign in OTHER_SIGNS)
    + tuple("x" + sign for sign in OTHER_SIGNS)
    + tuple("x" + sign + "y" for sign in OTHER_SIGNS)
    + ("xxxxxxxx\n", "xxxxxxx\n", "nil\n", "any\n", "\nnil", "nil ", " nil", "x\n\n", "x y", "x, y")
)
# These stand for no value, wherever one may stand; nil does, and any may in a cell.
NO_VALUES = (
    ("",) + LONG + FIGURE_FIRST + GREAT_LETTERS + WITH_OTHER_SIGNS
    + tuple(word for word in TEN_WORDS if word not in ("nil", "any"))
)

ROWS = (
    (0, ("is", "x", "y")),
    (0, ("not", "x", "y")),
    (1, ("cell", "x", "y", "z")),
    (1, ("stretch", "x", "y")),
    (1, ("tree", "x")),
)
# Each place where a value may stand: which list, the row, the place in it.
PLACES = tuple((kind, row, place) for kind, row in ROWS for place in range(1, len(row)))

NINE_NAMES = ("a", "b", "c", "d", "e", "f", "g", "h", "i9")

OTHER_REFUSALS = (NoValue, NoProgram, NoRow, NoName, NoText)


def with_word_at(kind, row, place, word):
    """The telling of this one row, with the word in that place."""
    changed = row[:place] + (word,) + row[place + 1:]
    return ([changed], []) if kind == 0 else ([], [changed])


def one_row(kind, row):
    return ([row], []) if kind == 0 else ([], [row])


def full_telling():
    """Eight facts, six parts, eight names; nil and any beside."""
    facts = [("is", "a", "b"), ("not", "c", "nil"), ("is", "nil", "d"), ("not", "e", "f"),
             ("is", "g", "g"), ("not", "a", "h"), ("is", "nil", "nil"), ("is", "a", "b")]
    parts = [("cell", "a", "any", "b"), ("cell", "c", "nil", "any"), ("cell", "d", "any", "any"),
             ("stretch", "e", "f"), ("tree", "g"), ("stretch", "h", "nil")]
    return (facts, parts)


def forty_facts():
    facts = []
    for count in range(20):
        facts.append(("is", NINE_NAMES[count % 8], NINE_NAMES[count % 3]))
        facts.append(("not", NINE_NAMES[count % 5], "nil"))
    return facts


# Each with the name of what is broken.
NO_TELLINGS = (
    ("nine facts", ([("is", "x", "y")] * 9, [])),
    ("nine facts that differ", ([("is", "x", name) for name in NINE_NAMES[:8]] + [("not", "x", "nil")], [])),
    ("nine facts of nil", ([("is", "nil", "nil")] * 9, [])),
    ("nine facts and a part", ([("not", "x", "y")] * 9, [("tree", "x")])),
    ("forty facts", (forty_facts(), [])),
    ("seven parts", ([], [("tree", "x")] * 7)),
    ("seven parts of nil", ([], [("tree", "nil")] * 7)),
    ("seven parts that differ", ([], [("cell", name, "any", "nil") for name in NINE_NAMES[:7]])),
    ("eight parts", ([], [("stretch", "x", "y")] * 8)),
    ("nine names in facts", ([("is", name, "nil") for name in NINE_NAMES[:7]] + [("is", "h", "i9")], [])),
    ("nine names in parts", ([], [("cell", "a", "b", "c"), ("cell", "d", "e", "f"), ("cell", "g", "h", "i9")])),
    ("a ninth name in a part", ([("is", name, name) for name in NINE_NAMES[:8]], [("tree", "i9")])),
    ("a ninth name as a stretch's end", ([("is", name, name) for name in NINE_NAMES[:8]], [("stretch", "a", "i9")])),
    ("a ninth name as a second value", ([("is", name, name) for name in NINE_NAMES[:8]], [("cell", "a", "any", "i9")])),
    ("a ninth name in a fact", ([("not", "nil", "i9")],
                                [("cell", "a", "b", "c"), ("cell", "d", "e", "f"), ("stretch", "g", "h")])),
    ("another word of a fact", ([("isnt", "x", "y")], [])),
    ("a great word of a fact", ([("IS", "x", "y")], [])),
    ("no word of a fact", ([("", "x", "y")], [])),
    ("a name as a fact's word", ([("x", "is", "y")], [])),
    ("nothing as a fact's word", ([("nothing", "x", "y")], [])),
    ("any as a fact's word", ([("any", "x", "y")], [])),
    ("a line end behind a fact's word", ([("is\n", "x", "y")], [])),
    ("a bad fact behind a good one", ([("is", "x", "y"), ("then", "x", "y")], [])),
    ("a bad fact ahead of a good one", ([("with", "x", "y"), ("is", "x", "y")], [])),
    ("another word of a part", ([], [("list", "x", "y")])),
    ("another word of a part of two", ([], [("trees", "x")])),
    ("another word of a part of four", ([], [("cells", "x", "y", "z")])),
    ("a great word of a part", ([], [("Tree", "x")])),
    ("no word of a part", ([], [("", "x")])),
    ("nothing as a part", ([], [("nothing",)])),
    ("nothing as a part's word", ([], [("nothing", "x")])),
    ("a name as a part's word", ([], [("x", "y")])),
    ("a line end behind a part's word", ([], [("tree\n", "x")])),
    ("a bad part behind a good one", ([], [("tree", "x"), ("tree", "any")])),
    ("a bad part ahead of a good one", ([], [("cell", "any", "x", "y"), ("tree", "x")])),
    ("a fact of its word alone", ([("is",)], [])),
    ("a fact of two", ([("is", "x")], [])),
    ("a not of two", ([("not", "x")], [])),
    ("a fact of four", ([("is", "x", "y", "z")], [])),
    ("a not of four", ([("not", "x", "y", "nil")], [])),
    ("a cell of its word alone", ([], [("cell",)])),
    ("a cell of two", ([], [("cell", "x")])),
    ("a cell of three", ([], [("cell", "x", "y")])),
    ("a cell of five", ([], [("cell", "x", "y", "z", "w")])),
    ("a cell of five with any", ([], [("cell", "x", "any", "any", "any")])),
    ("a stretch of its word alone", ([], [("stretch",)])),
    ("a stretch of two", ([], [("stretch", "x")])),
    ("a stretch of four", ([], [("stretch", "x", "y", "z")])),
    ("a tree of its word alone", ([], [("tree",)])),
    ("a tree of three", ([], [("tree", "x", "y")])),
    ("a tree of four", ([], [("tree", "x", "y", "z")])),
    ("an empty row among the facts", ([()], [])),
    ("an empty row among the parts", ([], [()])),
    ("an empty row behind a fact", ([("is", "x", "y"), ()], [])),
    ("an empty row behind a part", ([], [("tree", "x"), ()])),
    ("a cell among the facts", ([("cell", "x", "y", "z")], [])),
    ("a stretch among the facts", ([("stretch", "x", "y")], [])),
    ("a tree among the facts", ([("tree", "x")], [])),
    ("an is among the parts", ([], [("is", "x", "y")])),
    ("a not among the parts", ([], [("not", "x", "y")])),
    ("facts and parts in the wrong lists", ([("tree", "x")], [("is", "x", "y")])),
)
# No text writes these.
NO_PAIRS = (
    ("no list", ()),
    ("one list", ([],)),
    ("one list of facts", ([("is", "x", "y")],)),
    ("three lists", ([], [], [])),
    ("three lists with rows", ([("is", "x", "y")], [("tree", "x")], [])),
    ("three lists, a row in the last", ([], [], [("tree", "x")])),
    ("four lists", ([], [], [], [])),
)


class RefusalMixin:
    def assert_no_telling(self, asked, *handed):
        """Refused with NoTelling, which is an ApartError and a ValueError and none of the others."""
        with self.assertRaises(NoTelling) as caught:
            asked(*handed)
        self.assertIsInstance(caught.exception, ApartError)
        self.assertIsInstance(caught.exception, ValueError)
        self.assertNotIsInstance(caught.exception, OTHER_REFUSALS)


def some_fact(chance, words):
    return (chance.choice(("is", "not", "not")), chance.choice(words), chance.choice(words))


def some_part(chance, words):
    kind = chance.choice(("cell", "cell", "stretch", "stretch", "tree"))
    if kind == "cell":
        return (kind, chance.choice(words), chance.choice(words + ["any"]), chance.choice(words + ["any"]))
    return (kind, chance.choice(words)) + ((chance.choice(words),) if kind == "stretch" else ())


def some_telling(chance, names, most_facts, most_parts):
    """A telling of these names (not all of them need be there) and nil."""
    words = list(names) + ["nil"]
    facts = [some_fact(chance, words) for count in range(chance.randint(0, most_facts))]
    parts = [some_part(chance, words) for count in range(chance.randint(0, most_parts))]
    return (facts, parts)


class Reference:
    """What is known of facts and parts, found from points 12 to 14 by trying all pairs again and again."""

    def __init__(self, facts, parts, names):
        self.parts = parts
        self.words = sorted({"nil"} | set(names) | set(names_of((facts, parts))))
        self.pairs = [(a, b) for a in self.words for b in self.words]
        self.is_so = {(a, a) for a in self.words}
        self.not_so = set()
        self.facts = facts
        before = None
        while before != (len(self.is_so), len(self.not_so)):
            before = (len(self.is_so), len(self.not_so))
            self.is_so |= {(a, b) for a, b in self.pairs if ("is", a, b) in facts or ("is", b, a) in facts}
            self.is_so |= {(a, c) for a, b in self.pairs for c in self.words if self.alike(a, b) and self.alike(b, c)}
            self.not_so |= {(a, b) for a, b in self.pairs if self.must_be_unlike(a, b)}

    def alike(self, a, b):
        return (a, b) in self.is_so

    def unlike(self, a, b):
        return (a, b) in self.not_so

    def empty(self, number):
        part = self.parts[number]
        return {"cell": False, "stretch": self.alike(part[1], part[-1]), "tree": self.alike(part[1], "nil")}[part[0]]

    def full(self, number):
        part = self.parts[number]
        return {"cell": True, "stretch": self.unlike(part[1], part[-1]), "tree": self.unlike(part[1], "nil")}[part[0]]

    def full_ones(self):
        return [number for number in range(len(self.parts)) if self.full(number)]

    def not_empty_ones(self):
        return [number for number in range(len(self.parts)) if not self.empty(number)]

    def must_be_unlike(self, a, b):
        for word, x, y in self.facts:
            for c, d in ((x, y), (y, x)):
                if word == "not" and self.alike(a, c) and self.alike(b, d):
                    return True
        for one in self.full_ones():
            place = self.parts[one][1]
            for c, d in ((a, b), (b, a)):
                if self.alike(c, place) and self.alike(d, "nil"):
                    return True
                for other in self.full_ones():
                    if one != other and self.alike(c, place) and self.alike(d, self.parts[other][1]):
                        return True
        return False

    def clash(self):
        if self.is_so & self.not_so:
            return True
        places = [self.parts[number][1] for number in self.full_ones()]
        if any(self.alike(place, "nil") for place in places):
            return True
        return any(self.alike(places[k], places[j]) for k in range(len(places)) for j in range(k))

    def ready(self):
        places = [self.parts[number][1] for number in self.not_empty_ones()]
        if any(self.alike(place, "nil") for place in places):
            return False
        return not any(self.alike(places[k], places[j]) for k in range(len(places)) for j in range(k))

    def open_pairs(self):
        """All pairs that point 14 lets be told."""
        told = []
        for number in self.not_empty_ones():
            part = self.parts[number]
            others = [self.parts[other][1] for other in self.not_empty_ones() if other != number]
            if part[0] != "cell" and any(self.alike(part[1], word) for word in others + ["nil"]):
                a, b = (part[1], part[2]) if part[0] == "stretch" else (part[1], "nil")
                if not self.alike(a, b) and not self.unlike(a, b):
                    told.extend([(a, b), (b, a)])
        return told


SIX_NAMES = ("x", "y", "z", "u", "v", "w")


def cell_flaw(known, row, part):
    """Why the row doesn't take this cell (18), or None."""
    if len(row) != 1:
        return "a cell's row has not one number"
    found = known.parts[row[0]]
    if found[0] != "cell" or not known.alike(found[1], part[1]):
        return "no cell at the place"
    for place in (2, 3):
        if part[place] != "any" and (found[place] == "any" or not known.alike(found[place], part[place])):
            return "another value in the cell"
    return None


def stretch_flaw(known, row, part):
    """Why the row doesn't take this stretch (18), or None."""
    stand, end = part[1], part[2]
    fulls = [known.parts[number][1] for number in known.full_ones()]
    for number in row:
        found = known.parts[number]
        if not known.alike(found[1], stand):
            return "a part that doesn't lie where one stands"
        if found[0] == "cell" and known.unlike(stand, end) and found[3] != "any":
            stand = found[3]
        elif found[0] == "stretch" and known.alike(found[2], end):
            stand = found[2]
        elif found[0] == "stretch" and known.unlike(stand, end) and (
                known.alike(end, "nil") or any(known.alike(end, place) for place in fulls)):
            stand = found[2]
        else:
            return "a part that one can't pass"
    return None if known.alike(stand, end) else "one doesn't stand at the end"


def tree_flaw(known, row, part):
    """Why the row doesn't take this tree (18), or None."""
    coming, left = [part[1]], list(row)
    while coming:
        place = coming.pop(0)
        if known.alike(place, "nil"):
            continue
        if not left:
            return "a tree without a part"
        found = known.parts[left.pop(0)]
        if not known.alike(found[1], place):
            return "a part that lies elsewhere than the tree"
        if found[0] == "cell" and "any" not in found[2:]:
            coming = [found[2], found[3]] + coming
        elif found[0] != "tree":
            return "a part that is no tree's"
    return "a number that is left" if left else None


FLAWS = {"cell": cell_flaw, "stretch": stretch_flaw, "tree": tree_flaw}


def cover_flaw(known, rows, other, whole):
    """Why the rows are no cover (18), or None; where whole is False, parts may be left over (21)."""
    for word, a, b in other[0]:
        if not (known.alike(a, b) if word == "is" else known.unlike(a, b)):
            return "a fact that isn't known"
    if type(rows) is not list or len(rows) != len(other[1]):
        return "another number of rows than parts"
    numbers = []
    for row in rows:
        if type(row) is not list or any(type(number) is not int for number in row):
            return "a row that is no list of numbers"
        numbers.extend(row)
    if any(number not in range(len(known.parts)) for number in numbers):
        return "a number of no part"
    if len(set(numbers)) != len(numbers):
        return "a number that stands twice"
    if whole and not set(known.not_empty_ones()) <= set(numbers):
        return "a part that stands in no row"
    for row, part in zip(rows, other[1]):
        flaw = FLAWS[part[0]](known, row, part)
        if flaw is not None:
            return flaw
    return None


def paper_flaw(paper, one, other, whole=True):
    """Why this is no paper (17 to 19), or, where whole is False, no rest paper (21); or None."""
    names = sorted(set(names_of(one)) | set(names_of(other)))
    if type(paper) is not tuple:
        return "a paper that is no tuple"
    if paper[0] == "split" and len(paper) == 5:
        if any(word not in names + ["nil"] for word in paper[1:3]):
            return "a split by what is no name of the two"
        for word, next_paper in zip(("is", "not"), paper[3:]):
            flaw = paper_flaw(next_paper, (one[0] + [(word, paper[1], paper[2])], one[1]), other, whole)
            if flaw is not None:
                return flaw
        return None
    known = Reference(one[0], one[1], names)
    if paper == ("clash",):
        return None if known.clash() else "what is said to clash doesn't"
    if paper[0] == "cover" and len(paper) == 2:
        return cover_flaw(known, paper[1], other, whole)
    return "no paper"


def state_flaw(values, heap, one, other):
    """Why these are no values of the names of both with a heap that fit the first telling, or None."""
    if type(values) is not dict or type(heap) is not dict:
        return "no dicts"
    if sorted(values) != sorted(set(names_of(one)) | set(names_of(other))):
        return "other names than those of the two"
    numbers = list(values.values())
    for address, cell in heap.items():
        if type(address) is not int or address < 1 or type(cell) is not tuple or len(cell) != 2:
            return "no heap"
        numbers.extend(cell)
    if any(type(number) is not int or number < 0 or number >= 10 ** 60 for number in numbers):
        return "no values"
    return None if fits(values, heap, one) else "the first one doesn't fit"


def pairs_of(text):
    """The pairs of tellings' texts that stand in the rows, but those of remarks; rows that begin with blanks go on."""
    rows = [row for row in text.replace("\n    ", " ").split("\n") if row and not row.startswith("#")]
    return [tuple(row.split(" => ")) for row in rows]


def turn_about(chance, facts, parts):
    return ([(word, b, a) for word, a, b in chance.sample(facts, len(facts))], chance.sample(parts, len(parts)))


def leave_out_a_fact(chance, facts, parts):
    return (chance.sample(facts, max(len(facts) - 1, 0)), parts)


def cells_as_stretches(chance, facts, parts):
    def turned(part):
        may_be = part[0] == "cell" and part[3] != "any"
        return ("stretch", part[1], part[3]) if may_be and chance.random() < 0.5 else part

    return (facts, [turned(part) for part in parts])


def join_stretches(chance, facts, parts):
    for k, j in itertools.permutations(range(len(parts)), 2):
        if parts[k][0] == parts[j][0] == "stretch" and parts[k][2] == parts[j][1]:
            others = [part for number, part in enumerate(parts) if number not in (k, j)]
            return (facts, others + [("stretch", parts[k][1], parts[j][2])])
    return (facts, parts)


def join_tree(chance, facts, parts):
    for part in parts:
        if part[0] == "cell" and "any" not in part:
            others = [other for other in parts if other != part]
            for word in part[2:]:
                if ("tree", word) in others:
                    others.remove(("tree", word))
            return (facts, others + [("tree", part[1])])
    return (facts, parts)


def exchange_names(chance, facts, parts):
    for word, a, b in facts:
        if word == "is" and chance.random() < 0.5:
            return (facts, [part[:1] + tuple(b if each == a else each for each in part[1:]) for part in parts])
    return (facts, parts)


def hide_values(chance, facts, parts):
    hidden = [part[:2] + tuple(chance.choice((word, "any")) for word in part[2:]) if part[0] == "cell" else part
              for part in parts]
    return (facts, hidden)


WAYS = (turn_about, leave_out_a_fact, cells_as_stretches, join_stretches, join_tree, exchange_names, hide_values)


def with_parts_put_together(chance, telling):
    """A telling that often follows from this one: parts put together, facts left out, alike names exchanged."""
    facts, parts = list(telling[0]), list(telling[1])
    for count in range(chance.randint(0, 4)):
        facts, parts = chance.choice(WAYS)(chance, facts, parts)
    return (facts, parts)


def empty(told):
    """Empty all lists and dicts of an answer."""
    if type(told) in (tuple, list):
        for each in told:
            empty(each)
    if type(told) in (list, dict):
        told.clear()


def lists_of(told):
    """All lists in an answer."""
    found = [told] if type(told) is list else []
    if type(told) in (tuple, list):
        for each in told:
            found += lists_of(each)
    return found


def some_cells(chance, part, values, spares):
    """Cells that a part may take, as a dict, however many; spares is a list of addresses, of which some are taken."""
    numbers = dict(values, nil=0)
    junk = list(numbers.values()) + [chance.randint(0, 99)]
    place = numbers[part[1]]
    if part[0] == "cell":
        return {place: tuple(chance.choice(junk) if word == "any" else numbers[word] for word in part[2:])}
    cells = {}
    if part[0] == "stretch":
        while place != numbers[part[2]]:
            later = numbers[part[2]] if chance.random() < 0.5 else spares.pop()
            cells[place] = (chance.choice(junk), later)
            place = later
        return cells
    coming = [place]
    while coming:
        place = coming.pop()
        if place != 0:
            cells[place] = tuple(0 if chance.random() < 0.6 else spares.pop() for side in range(2))
            coming.extend(cells[place])
    return cells


def some_state(chance, telling, names):
    """Values of the names, all those of the telling among them, and a heap, that fit; or None where none was found."""
    for count in range(12):
        values = {name: chance.randint(0, 1 + len(names)) for name in names}
        for word, a, b in telling[0] * 2:
            if word == "is":
                values[a] = values.get(b, 0)
        values.pop("nil", None)
        spares = chance.sample(range(1, 300), 299)
        heap = {}
        for part in telling[1]:
            heap.update(some_cells(chance, part, values, spares))
        if 0 not in heap and fits(values, heap, telling):
            return (values, heap)
    return None


class SomeProgram:
    """A program by chance, within all bounds of points 22 to 24."""

    def __init__(self, chance):
        self.chance = chance
        self.left = chance.choice((5, 15, 30))
        self.heads = []
        for name in chance.sample(("p", "q", "first", "end", "x", "set7"), chance.randint(1, 4)):
            names = chance.sample(("x", "y", "z", "u", "v", "first", "second", "set", "end", "p"), 6)
            params = tuple(names[:chance.randint(0, 4)])
            result = names[4] if chance.random() < 0.5 else ""
            self.heads.append((name, params, result, names[len(params):]))
        self.program = [self.procedure(*head) for head in self.heads]

    def procedure(self, name, params, result, others):
        before = some_telling(self.chance, params, 3, 3)
        behind = some_telling(self.chance, params + ((result,) if result else ()), 3, 3)
        return (name, params, result, before, behind, self.deeds(list(params), others, 0))

    def deeds(self, params, others, around):
        found = []
        while self.left > 0 and self.chance.random() < (0.85 if around == 0 else 0.6):
            self.left -= 1
            found.append(self.deed(params, others, around))
        return found

    def deed(self, params, others, around):
        chance = self.chance
        names = params + others
        words = names + ["nil"]
        value, field = chance.choice(words), chance.choice(("first", "second"))
        condition = (chance.choice(("is", "not")), chance.choice(words), chance.choice(words))
        name, params_called, result, rest = chance.choice(self.heads)
        called = tuple(chance.choice(words) for param in params_called)
        deeds = [("set", chance.choice(others), value), ("read", chance.choice(others), chance.choice(names), field),
                 ("write", chance.choice(names), field, value), ("free", chance.choice(names)),
                 ("new", chance.choice(others), value, chance.choice(words)),
                 ("call", chance.choice(others) if result else "", name, called)]
        if around < 4 and chance.random() < 0.4:
            inner = self.deeds(params, others, around + 1)
            if chance.random() < 0.5:
                return ("if", condition, inner, self.deeds(params, others, around + 1))
            return ("while", condition, some_telling(chance, names, 2, 2), inner)
        return chance.choice(deeds)


def some_program(chance):
    return SomeProgram(chance).program
