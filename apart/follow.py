"""What follows: a paper that shows it, or values and a heap that show that it doesn't."""

from apart.covers import cover, fits
from apart.examples import state_of
from apart.known import Knowledge, ends_of
from apart.tellings import names_of


class Taking:
    """Parts of a first telling that is ready, taken for the parts of another one (18).

    Parts is a dict of those that are there to be taken, by the numbers that they have in what is known. Two that
    are neither known to be alike nor unlike are taken to be unlike, as in the first telling's examples. Doubt is
    the first such pair that a cover must know to be unlike, else None. Where a stretch of the other telling may
    come to its end too early (19), amid is a dict with that end by the number of the stretch.
    """

    def __init__(self, knowledge, parts):
        self.knowledge = knowledge
        self.parts = parts
        self.taken = {}
        self.doubt = None
        self.amid = {}

    def ask_unlike(self, one, other):
        """Keep the first pair that isn't known to be unlike, of those that are to be."""
        if self.doubt is None and not self.knowledge.unlike(one, other):
            self.doubt = (one, other)

    def holds(self, fact):
        """Whether a fact of the other telling holds."""
        if fact[0] == "is":
            return self.knowledge.alike(fact[1], fact[2])
        self.ask_unlike(fact[1], fact[2])
        return not self.knowledge.alike(fact[1], fact[2])

    def take(self, place):
        """The number of the part at a place, or None where none is there that hasn't been taken yet."""
        number = self.knowledge.number_at(place)
        if number not in self.parts or number in self.taken:
            return None
        self.taken[number] = True
        return number

    def gives(self, found, asked):
        """Whether a cell that is told with one value is one that is told with the other."""
        return asked == "any" or (found != "any" and self.knowledge.alike(found, asked))

    def cell_row(self, part):
        """The row of a cell, or None."""
        number = self.take(part[1])
        if number is None:
            return None
        found = self.parts[number]
        if found[0] != "cell" or not self.gives(found[2], part[2]) or not self.gives(found[3], part[3]):
            return None
        return [number]

    def lies_outside(self, number, end):
        """Whether an end that isn't a stretch's own can't be the address of a cell amid it."""
        if self.knowledge.alike(end, "nil"):
            return True
        other = self.knowledge.number_at(end)
        if other is None:
            self.amid = {number: end}
            return False
        if other not in self.knowledge.fulls:
            ends = ends_of(self.knowledge.parts[other])
            self.ask_unlike(ends[0], ends[1])
        return True

    def passed(self, number, end):
        """Where one stands who went through a part, to an end that is further on; or None."""
        found = self.parts[number]
        if found[0] == "cell" and found[3] != "any":
            self.ask_unlike(found[1], end)
            return found[3]
        if found[0] == "stretch":
            if self.knowledge.alike(found[2], end):
                return found[2]
            self.ask_unlike(found[1], end)
            return found[2] if self.lies_outside(number, end) else None
        return None

    def stretch_row(self, part):
        """The row of a stretch, or None."""
        row = []
        place = part[1]
        while not self.knowledge.alike(place, part[2]):
            number = self.take(place)
            if number is None:
                return None
            place = self.passed(number, part[2])
            if place is None:
                return None
            row.append(number)
        return row

    def tree_row(self, part):
        """The row of a tree, or None."""
        row = []
        coming = [part[1]]
        while coming:
            place = coming.pop()
            if not self.knowledge.alike(place, "nil"):
                number = self.take(place)
                if number is None:
                    return None
                found = self.parts[number]
                if found[0] == "stretch" or "any" in found:
                    return None
                if found[0] == "cell":
                    coming.extend([found[3], found[2]])
                row.append(number)
        return row

    def row_of(self, part):
        """The numbers of the parts whose cells are just those of a part of the other telling, or None."""
        if part[0] == "cell":
            return self.cell_row(part)
        return self.stretch_row(part) if part[0] == "stretch" else self.tree_row(part)

    def rows_of(self, telling):
        """A cover's rows for the other telling, right where nothing is in doubt; or None."""
        if not all([self.holds(fact) for fact in telling[0]]):
            return None
        rows = []
        for part in telling[1]:
            row = self.row_of(part)
            if row is None:
                return None
            rows.append(row)
        return rows

    def leaves_some(self):
        """Whether a part that isn't known to be empty has been left."""
        return any([number in self.parts and number not in self.taken for number in self.knowledge.not_empty])


def shows_against(state, other, whole):
    """Whether the other telling doesn't fit the heap, as a whole, or else any part of it."""
    if whole:
        return not fits(state[0], state[1], other)
    return cover(state[0], state[1], other) is None


def state_against(taking, names, other, whole):
    """Values and a heap that fit the first telling, and not the other one, for which the taking found no rows.

    Where all is asked for there is always one: if the first one here fits, that is only as no end lies amid a
    stretch; where the one that may does, cells are left over. Else None may be told.
    """
    for amid in ({}, taking.amid):
        state = state_of(taking.knowledge, names, amid)
        if shows_against(state, other, whole):
            return ("state", state[0], state[1])
    return None


def split_paper(one, other, names, whole, pair):
    """A paper that splits by a pair, or a state, or None where neither was found."""
    answers = []
    for word in ("is", "not"):
        answer = shown((one[0] + [(word, pair[0], pair[1])], one[1]), other, names, whole)
        if answer is not None and answer[0] == "state":
            return answer
        answers.append(answer)
    if None in answers:
        return None
    return ("paper", ("split", pair[0], pair[1], answers[0][1], answers[1][1]))


def shown(one, other, names, whole):
    """A paper that shows that the other telling takes its parts of the one, and, where whole is True, all of them.

    Or a state, of these names, that shows that it doesn't; or None, never where whole is True.
    """
    knowledge = Knowledge(one[0], one[1])
    if knowledge.clashing():
        return ("paper", ("clash",))
    pair = knowledge.open_ends()
    if pair is None:
        taking = Taking(knowledge, dict(enumerate(one[1])))
        rows = taking.rows_of(other)
        if rows is None or (whole and taking.leaves_some()):
            return state_against(taking, names, other, whole)
        pair = taking.doubt
        if pair is None:
            return ("paper", ("cover", rows))
    return split_paper(one, other, names, whole, pair)


def names_of_both(one, other):
    """The sorted list of the names of two tellings."""
    return sorted(set(names_of(one) + names_of(other)))


def followed(one, other):
    """`("paper", paper)` where the other telling follows from the one, else `("state", values, heap)` (20)."""
    return shown(one, other, names_of_both(one, other), True)
