"""What fits: the cells of a heap that each part of a telling takes."""

from apart.errors import NoValue
from apart.tellings import names_of


def check_values(values, telling):
    """Refuse with NoValue values that lack a name of the telling."""
    if not all([name in values for name in names_of(telling)]):
        raise NoValue("the values lack a name of the telling")


def number_of(values, word):
    """The number that a name or nil stands for."""
    return 0 if word == "nil" else values[word]


def holds(values, fact):
    """Whether a fact holds."""
    alike = number_of(values, fact[1]) == number_of(values, fact[2])
    return alike == (fact[0] == "is")


def may_be(values, word, number):
    """Whether a cell that is told with this word may have the number there."""
    return word == "any" or number_of(values, word) == number


def cell_taken(values, heap, part):
    """The address that a cell takes, as a list, or None."""
    place = number_of(values, part[1])
    if place not in heap:
        return None
    cell = heap[place]
    if not may_be(values, part[2], cell[0]) or not may_be(values, part[3], cell[1]):
        return None
    return [place]


def stretch_taken(heap, place, end):
    """The addresses that a stretch takes, as they are met, or None."""
    taken = {}
    while place != end:
        if place in taken or place not in heap:
            return None
        taken[place] = True
        place = heap[place][1]
    return list(taken)


def tree_taken(heap, top):
    """The addresses that a tree takes, each place ahead of its two trees, or None."""
    taken = {}
    coming = [top]
    while coming:
        place = coming.pop()
        if place != 0:
            if place in taken or place not in heap:
                return None
            taken[place] = True
            # The last one is taken out first, so the first value's tree is put behind the second's.
            coming.extend([heap[place][1], heap[place][0]])
    return list(taken)


def part_taken(values, heap, part):
    """The list of the addresses that a part takes by itself, or None where it doesn't find its cells."""
    if part[0] == "cell":
        return cell_taken(values, heap, part)
    if part[0] == "stretch":
        return stretch_taken(heap, number_of(values, part[1]), number_of(values, part[2]))
    return tree_taken(heap, number_of(values, part[1]))


def cover(values, heap, telling):
    """For each part the list of the addresses that it takes, or None where the telling fits no part of the heap."""
    check_values(values, telling)
    if not all([holds(values, fact) for fact in telling[0]]):
        return None
    rows = [part_taken(values, heap, part) for part in telling[1]]
    if None in rows:
        return None
    taken = []
    for row in rows:
        taken.extend(row)
    return rows if len(set(taken)) == len(taken) else None


def fits(values, heap, telling):
    """Whether the values and the heap fit the telling, with no cell left over."""
    rows = cover(values, heap, telling)
    return rows is not None and sum([len(row) for row in rows]) == len(heap)
