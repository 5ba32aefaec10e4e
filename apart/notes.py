"""Tellings as texts: reading and showing them."""

from apart.tellings import FACT_WORDS, check_telling

NOTHING = "nothing"


def writes_fact(words):
    """Whether the words are in the order of a fact, whose own word stands amid."""
    return len(words) == 3 and words[1] in FACT_WORDS


def read_telling(text):
    """The telling that a text writes; one that writes none is refused with NoTelling."""
    facts = []
    parts = []
    pieces = [] if text == NOTHING else text.split(", ")
    for piece in pieces:
        words = piece.split(" ")
        if writes_fact(words):
            facts.append((words[1], words[0], words[2]))
        else:
            # Whatever is no part either is refused below.
            parts.append(tuple(words))
    telling = (facts, parts)
    check_telling(telling)
    return telling


def show_fact(fact):
    """A fact as its words."""
    return " ".join([fact[1], fact[0], fact[2]])


def show_telling(telling):
    """The text that writes a telling."""
    pieces = [show_fact(fact) for fact in telling[0]] + [" ".join(part) for part in telling[1]]
    return ", ".join(pieces) if pieces else NOTHING
