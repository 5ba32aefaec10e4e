"""Examples: values and a heap that fit facts and parts that are ready."""

from apart.known import Knowledge
from apart.tellings import names_of


def numbered(knowledge, names):
    """Values for the names, the same for two (or nil, which is 0) just where they are known to be alike."""
    numbers = {knowledge.head("nil"): 0}
    values = {"nil": 0}
    for name in names:
        values[name] = numbers.setdefault(knowledge.head(name), len(numbers))
    return values


def cells_of(part, values, spares, beside):
    """The cells of a full part by their addresses; beside is a number that no name has and at which no cell lies.

    A stretch has two cells and a tree three, and beside stands wherever the telling lets any value stand, so that
    the heap fits as few other tellings as may be.
    """
    place = values[part[1]]
    if part[0] == "cell":
        return {place: (values.get(part[2], beside), values.get(part[3], beside))}
    if part[0] == "stretch":
        return {place: (beside, spares[0]), spares[0]: (beside, values[part[2]])}
    return {place: (spares[0], spares[1]), spares[0]: (0, 0), spares[1]: (0, 0)}


def state_of(knowledge, names, amid):
    """Values of the names, all those of the parts among them, and a heap that fit what is ready.

    Amid is a dict of names by numbers of stretches: the stretch's second cell lies at what the name stands for,
    which is neither nil, nor its second end, nor the place of a part that isn't known to be empty.
    """
    values = numbered(knowledge, names)
    beside = len(names) + 1
    heap = {}
    for number in knowledge.not_empty:
        spares = [beside + 2 * number + 1, beside + 2 * number + 2]
        if number in amid:
            spares[0] = values[amid[number]]
        heap.update(cells_of(knowledge.parts[number], values, spares, beside))
    values.pop("nil")
    return (values, heap)


def example(facts, parts, names):
    """Values of all names of facts, parts and the list beside, and a heap, that fit what is ready (15)."""
    return state_of(Knowledge(facts, parts), names_of((facts, parts)) + names, {})
