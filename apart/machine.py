"""The machine: it goes through a program deed by deed."""

from apart.covers import holds, number_of
from apart.paths import behind_deed, found_at, settled
from apart.programs import FIELDS, by_names, cell_name, names_in, own_deeds


class Frame:
    """A procedure that is gone through: where it stands, the numbers of its names, and who gets its result."""

    def __init__(self, procedure, path, numbers, receiver):
        self.procedure = procedure
        self.path = settled(procedure[5], path)
        self.numbers = dict([(name, numbers.get(name, 0)) for name in names_in(procedure)])
        self.receiver = receiver

    def deed(self):
        """The deed at which it stands, None at its end."""
        return found_at(self.procedure[5], self.path)

    def move(self, path):
        """Stand at a path, or at what it stands for."""
        self.path = settled(self.procedure[5], path)

    def number(self, word):
        """The number that a name or nil stands for."""
        return number_of(self.numbers, word)


class Machine:
    """A run of a procedure; the last one of frames is the call that goes on, the first one what it was made with."""

    def __init__(self, program, name, path, values, heap):
        self.procedures = by_names([procedure[:5] + (own_deeds(procedure[5]),) for procedure in program])
        self.frames = [Frame(self.procedures[name], path, values, "")]
        self.cells = dict(heap)
        self.greatest = max(list(heap), default=0)
        self.fallen = False

    def word(self):
        """`on`, `end` or `fall`."""
        if self.fallen:
            return "fall"
        # Calls are left as they come to their end, so only the first one is ever found there.
        return "end" if self.frames[-1].deed() is None else "on"

    def where(self):
        """The name and the path of the call that goes on or fell, None where it has ended."""
        if self.word() == "end":
            return None
        return (self.frames[-1].procedure[0], self.frames[-1].path)

    def held(self):
        """The values of all names of the call that goes on or fell, at the end of the first one."""
        return dict(self.frames[-1].numbers)

    def heap(self):
        """The heap as it is now."""
        return dict(self.cells)

    def go(self, most):
        """At most so many steps, as long as it is on; how many it did is told."""
        done = 0
        while done < most and self.word() == "on":
            self.step()
            done = done + 1
        return done

    def step(self):
        """Do the deed at which it stands, if it is on (27)."""
        if self.word() != "on":
            return
        frame = self.frames[-1]
        deed = frame.deed()
        name = cell_name(deed)
        if name is not None and frame.number(name) not in self.cells:
            self.fallen = True
            return
        if deed[0] in ("if", "while"):
            self.branch(frame, deed)
        elif deed[0] == "call":
            self.enter(frame, deed)
        else:
            self.change(frame, deed)
            frame.move(behind_deed(frame.path))
        self.leave_ended()

    def branch(self, frame, deed):
        """Go on to the deeds of an if or a while that are due, or past it."""
        if holds(frame.numbers, deed[1]):
            frame.move(frame.path + (0, 0))
        elif deed[0] == "if":
            frame.move(frame.path + (1, 0))
        else:
            frame.move(behind_deed(frame.path))

    def enter(self, frame, deed):
        """Go to the begin of a procedure that is called; the one that calls stands behind the call meanwhile."""
        called = self.procedures[deed[2]]
        numbers = [frame.number(word) for word in deed[3]]
        frame.move(behind_deed(frame.path))
        self.frames.append(Frame(called, (0,), dict(zip(called[1], numbers)), deed[1]))

    def leave_ended(self):
        """Leave the calls that are at their end."""
        while len(self.frames) > 1 and self.frames[-1].deed() is None:
            ended = self.frames.pop()
            if ended.receiver != "":
                self.frames[-1].numbers[ended.receiver] = ended.numbers[ended.procedure[2]]

    def change(self, frame, deed):
        """Do a deed that changes a name or a cell; its cell is there."""
        if deed[0] == "set":
            frame.numbers[deed[1]] = frame.number(deed[2])
        elif deed[0] == "read":
            frame.numbers[deed[1]] = self.cells[frame.number(deed[2])][FIELDS.index(deed[3])]
        elif deed[0] == "write":
            cell = list(self.cells[frame.number(deed[1])])
            cell[FIELDS.index(deed[2])] = frame.number(deed[3])
            self.cells[frame.number(deed[1])] = tuple(cell)
        elif deed[0] == "new":
            cell = (frame.number(deed[2]), frame.number(deed[3]))
            self.greatest = self.greatest + 1
            self.cells[self.greatest] = cell
            frame.numbers[deed[1]] = self.greatest
        else:
            self.cells.pop(frame.number(deed[1]))
