"""Tellings: which tuples are tellings, which names they have, and other names in their place."""

from apart.errors import NoTelling

LETTERS = "abcdefghijklmnopqrstuvwxyz"
FIGURES = "0123456789"
NO_NAMES = ("nil", "any", "is", "not", "cell", "stretch", "tree", "nothing", "then", "with")
FACT_WORDS = ("is", "not")
FACT_LENGTH = 3
PART_LENGTHS = {"cell": 4, "stretch": 3, "tree": 2}

MOST_SIGNS = 8
MOST_FACTS = 8
MOST_PARTS = 6
MOST_NAMES = 8


def is_name(text):
    """Whether the text is a name (5)."""
    if text == "" or len(text) > MOST_SIGNS or text in NO_NAMES:
        return False
    # Python's own isalnum and islower take signs of other alphabets too.
    return text[0] in LETTERS and all([sign in LETTERS or sign in FIGURES for sign in text])


def is_value(text):
    """Whether the text may stand for a value (5)."""
    return text == "nil" or is_name(text)


def is_fact(row):
    """Whether a tuple of texts is a fact (6)."""
    if len(row) != FACT_LENGTH or row[0] not in FACT_WORDS:
        return False
    return all([is_value(word) for word in row[1:]])


def is_part(row):
    """Whether a tuple of texts is a part (6)."""
    if len(row) == 0 or len(row) != PART_LENGTHS.get(row[0]):
        return False
    if row[0] == "cell":
        return is_value(row[1]) and all([word == "any" or is_value(word) for word in row[2:]])
    return all([is_value(word) for word in row[1:]])


def are_rows(rows):
    """Whether these are a list of tuples of texts."""
    if not isinstance(rows, list):
        return False
    for row in rows:
        if not isinstance(row, tuple) or not all([isinstance(word, str) for word in row]):
            return False
    return True


def is_telling(telling):
    """Whether this is a telling (6) within its bounds (7)."""
    if not isinstance(telling, tuple) or len(telling) != 2:
        return False
    if not all([are_rows(rows) for rows in telling]):
        return False
    if len(telling[0]) > MOST_FACTS or len(telling[1]) > MOST_PARTS:
        return False
    if not all([is_fact(row) for row in telling[0]]) or not all([is_part(row) for row in telling[1]]):
        return False
    return len(names_of(telling)) <= MOST_NAMES


def check_telling(telling):
    """Refuse with NoTelling what is no telling."""
    if not is_telling(telling):
        raise NoTelling("no telling")


def names_of(telling):
    """The sorted list of the names of a telling."""
    names = []
    for row in telling[0] + telling[1]:
        names.extend([word for word in row[1:] if word not in NO_NAMES])
    return sorted(set(names))


def renamed_row(row, names):
    """A fact or a part with other names put for its own."""
    # A row's first word is no name, nor are nil and any: they stay, whatever the dict has.
    return row[:1] + tuple([word if word in NO_NAMES else names.get(word, word) for word in row[1:]])


def renamed(telling, names):
    """The telling in which each name that the dict has stands as what it has there."""
    facts = [renamed_row(row, names) for row in telling[0]]
    parts = [renamed_row(row, names) for row in telling[1]]
    return (facts, parts)
