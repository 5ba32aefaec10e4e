"""What is left of a heap when a telling has taken its part."""

from apart.follow import names_of_both, shown


def rest(one, other):
    """`("paper", paper)` with a rest paper, `("state", values, heap)` that shows that there is none, or None (21)."""
    return shown(one, other, names_of_both(one, other), False)


def left_by(one, rows):
    """The first telling with just those of its parts that stand in no row."""
    taken = []
    for row in rows:
        taken.extend(row)
    return (list(one[0]), [part for number, part in enumerate(one[1]) if number not in taken])


def rests(one, other, paper):
    """For each cover of a rest paper what is left there, the first papers of splits ahead of the second ones."""
    if paper[0] == "cover":
        return [left_by(one, paper[1])]
    found = []
    if paper[0] == "split":
        for word, inner in (("is", paper[3]), ("not", paper[4])):
            found.extend(rests((one[0] + [(word, paper[1], paper[2])], one[1]), other, inner))
    return found
