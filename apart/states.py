"""States on the way through a section: what is known of them, and one of them as it was at the section's begin."""

from apart.examples import state_of
from apart.programs import FIELDS
from apart.tellings import names_of, renamed


class State:
    """All states that come one way from a section's begin to a path.

    Words stand for values: a name for the one that it had at the begin, a text of figures for one that was met
    later. Facts and parts tell the heap at the begin, opened as far as it was looked at, and with the cells that
    were made since, whose parts' numbers made has; these lie apart from all that lay there at the begin. Present
    has the parts that are there now, as they are now, by the same numbers. Words has for each name the word of its
    value now. Called tells whether a call was on the way: then it all begins behind the last one.
    """

    def __init__(self, telling, words, path):
        self.facts = list(telling[0])
        self.parts = []
        self.present = {}
        self.made = []
        self.words = dict(words)
        self.coined = 0
        self.path = path
        self.called = False
        for part in telling[1]:
            self.put(part)

    def coin(self):
        """A word for a value of which nothing is known; it is no name, as it begins with a figure."""
        self.coined = self.coined + 1
        return str(self.coined)

    def put(self, part):
        """Put a part beside the others; its number is told."""
        number = len(self.parts)
        self.parts.append(tuple([self.coin() if word == "any" else word for word in part]))
        self.present[number] = self.parts[number]
        return number

    def with_fact(self, fact):
        """Those of the states in which a fact holds, too."""
        twin = State((self.facts + [fact], self.parts), self.words, self.path)
        twin.present = dict(self.present)
        twin.made = list(self.made)
        twin.coined = self.coined
        twin.called = self.called
        return twin

    def word_of(self, word):
        """The word of what a name or nil stands for now."""
        return "nil" if word == "nil" else self.words[word]

    def told(self, telling):
        """A telling with the words of what its names stand for now."""
        return renamed(telling, self.words)

    def opened(self, number):
        """See to it that a part that is known to be full is a cell, and the rest of it parts beside."""
        part = self.present[number]
        if part[0] == "cell":
            return
        cell = ("cell", part[1], self.coin(), self.coin())
        self.parts[number] = cell
        self.present[number] = cell
        if part[0] == "stretch":
            self.put(("stretch", cell[3], part[2]))
        else:
            self.put(("tree", cell[2]))
            self.put(("tree", cell[3]))

    def do_plain(self, deed, number):
        """Do a deed that changes a name or a cell; number is that of the cell's part, where it needs one."""
        if deed[0] == "set":
            self.words[deed[1]] = self.word_of(deed[2])
        elif deed[0] == "read":
            self.words[deed[1]] = self.present[number][2 + FIELDS.index(deed[3])]
        elif deed[0] == "write":
            cell = list(self.present[number])
            cell[2 + FIELDS.index(deed[2])] = self.word_of(deed[3])
            self.present[number] = tuple(cell)
        elif deed[0] == "new":
            word = self.coin()
            self.made.append(self.put(("cell", word, self.word_of(deed[2]), self.word_of(deed[3]))))
            self.words[deed[1]] = word
        else:
            self.present.pop(number)

    def do_call(self, knowledge, taken, behind):
        """What fits a telling takes the place of some parts; what is known of values stays, what lay there doesn't."""
        left = [self.present[number] for number in self.present if number not in taken]
        self.facts.extend([("not", pair[0], pair[1]) for pair in knowledge.unlikes if pair[0] < pair[1]])
        self.facts.extend(behind[0])
        self.parts = []
        self.present = {}
        self.made = []
        self.called = True
        for part in left + behind[1]:
            self.put(part)


def numbered_anew(values, heap, made):
    """The values and the heap with other numbers, alike where they were, and without the cells at the made addresses.

    The least numbers are those of the heap's addresses, then the made ones come in their order: so a machine makes
    its cells there.
    """
    kept = [address for address in heap if address not in made]
    numbers = {0: 0}
    for address in kept + made:
        numbers[address] = len(numbers)
    for number in list(values.values()):
        numbers.setdefault(number, len(numbers))
    cells = {}
    for address in kept:
        cells[numbers[address]] = tuple([numbers.setdefault(number, len(numbers)) for number in heap[address]])
    return (dict([(name, numbers[values[name]]) for name in values]), cells)


def begun(state, knowledge, names, amid):
    """One of the states, as it was at the section's begin: values of these words and a heap.

    Amid is as in state_of; what is known of the state's facts and parts is ready.
    """
    told = state_of(knowledge, names_of((state.facts, state.parts)) + names, amid)
    made = [told[0][state.parts[number][1]] for number in state.made]
    values = dict([(name, told[0][name]) for name in names])
    return numbered_anew(values, told[1], made)
