"""Looking through: whether a procedure holds to what is told before and behind it and at its loops."""

from apart.covers import fits
from apart.follow import Taking
from apart.known import Knowledge, ends_of
from apart.machine import Machine
from apart.paths import begins, behind_deed, found_at, settled
from apart.programs import by_names, cell_name, names_in
from apart.states import State, begun
from apart.tellings import FACT_WORDS, renamed

CONTRARIES = {"is": "not", "not": "is"}


def with_condition(loop, holding):
    """The telling of a while, with its condition, or its contrary, put behind its facts."""
    condition = loop[1]
    word = condition[0] if holding else CONTRARIES[condition[0]]
    return (loop[2][0] + [(word, condition[1], condition[2])], list(loop[2][1]))


def told_in(procedure, path):
    """The telling that is told at a section's begin, and the sorted list of the names that are 0 there."""
    if path == (0,):
        zeros = [name for name in names_in(procedure) if name not in procedure[1]]
        return ((list(procedure[3][0]), list(procedure[3][1])), zeros)
    if path[-1] == 0:
        return (with_condition(found_at(procedure[5], path[:-2]), True), [])
    return (with_condition(found_at(procedure[5], path[:-1] + (path[-1] - 1,)), False), [])


def told_at(program, name, path):
    """What is told at a section's begin (30): a pair, the telling and the sorted list of the names that are 0."""
    return told_in(by_names(program)[name], path)


def end_telling(procedure, path):
    """What is told where a section ends: at a while its telling, at the end what stands behind; elsewhere None."""
    deed = found_at(procedure[5], path)
    if deed is None:
        return procedure[4]
    return deed[2] if deed[0] == "while" else None


class Section:
    """A section of a procedure: the states that wait to be looked at, and what was found to be wrong, else None."""

    def __init__(self, program, procedure, start):
        self.program = program
        self.procedure = procedure
        self.start = start
        self.flaw = None
        told = told_in(procedure, start)
        self.zeros = told[1]
        self.others = [name for name in names_in(procedure) if name not in self.zeros]
        words = dict([(name, "nil") for name in self.zeros] + [(name, name) for name in self.others])
        self.waiting = [State(told[0], words, settled(procedure[5], start))]

    def look(self):
        """Go through all states, until one is found to fail; the flaw is told, or None."""
        while self.waiting and self.flaw is None:
            state = self.waiting.pop()
            knowledge = Knowledge(state.facts, state.parts)
            if not knowledge.clashing():
                pair = knowledge.open_ends()
                if pair is None:
                    pair = self.go_on(state, knowledge)
                if pair is not None:
                    self.waiting.extend([state.with_fact((word, pair[0], pair[1])) for word in FACT_WORDS])
        return self.flaw

    def go_on(self, state, knowledge):
        """Do the deed at which a state stands; where it hangs on a pair that isn't known, the pair is told."""
        told = end_telling(self.procedure, state.path)
        if told is not None:
            return self.end(state, knowledge, told)
        deed = found_at(self.procedure[5], state.path)
        if deed[0] == "if":
            return self.branch(state, knowledge, deed)
        if deed[0] == "call":
            return self.call(state, knowledge, deed)
        if cell_name(deed) is not None:
            return self.change_cell(state, knowledge, deed)
        self.change(state, deed, None)
        return None

    def change_cell(self, state, knowledge, deed):
        """Do a deed that needs a cell; where it hangs on a pair whether one lies there, the pair is told."""
        number = knowledge.number_at(state.word_of(cell_name(deed)))
        if number not in state.present:
            # No part is known to lie there, so in some state no cell does.
            self.fail(state, knowledge, {})
            return None
        if number not in knowledge.fulls:
            return ends_of(state.present[number])
        state.opened(number)
        self.change(state, deed, number)
        return None

    def move(self, state, path):
        """A state goes on at a path."""
        state.path = settled(self.procedure[5], path)
        self.waiting.append(state)

    def change(self, state, deed, number):
        """Do a deed that changes a name or a cell, and go on behind it."""
        state.do_plain(deed, number)
        self.move(state, behind_deed(state.path))

    def branch(self, state, knowledge, deed):
        """Go on to the deeds of an if that are due; where this isn't known, the pair is told."""
        pair = (state.word_of(deed[1][1]), state.word_of(deed[1][2]))
        alike = knowledge.alike(pair[0], pair[1])
        if not alike and not knowledge.unlike(pair[0], pair[1]):
            return pair
        self.move(state, state.path + (0 if alike == (deed[1][0] == "is") else 1, 0))
        return None

    def call(self, state, knowledge, deed):
        """Put what the called one leaves behind in place of what it takes; where this hangs on a pair, it is told."""
        called = by_names(self.program)[deed[2]]
        words = dict(zip(called[1], [state.word_of(word) for word in deed[3]]))
        before = renamed(called[3], words)
        taking = Taking(knowledge, state.present)
        if taking.rows_of(before) is None:
            self.flaw = ("bad", self.start, "call", None, None)
            return None
        if taking.doubt is None:
            result = state.coin()
            # Where the called one has no result nothing in its tellings is called so.
            words[called[2]] = result
            state.do_call(knowledge, taking.taken, renamed(called[4], words))
            if deed[1] != "":
                state.words[deed[1]] = result
            self.move(state, behind_deed(state.path))
        return taking.doubt

    def end(self, state, knowledge, telling):
        """See whether all states fit what is told at a section's end; where this hangs on a pair, it is told."""
        taking = Taking(knowledge, state.present)
        if taking.rows_of(state.told(telling)) is None or taking.leaves_some():
            self.fail(state, knowledge, taking.amid)
            return None
        return taking.doubt

    def fail(self, state, knowledge, amid):
        """Keep one of the states that fails; behind a call none is told."""
        if state.called:
            self.flaw = ("bad", self.start, "call", None, None)
            return
        for ends in ({}, amid):
            told = begun(state, knowledge, self.others, ends)
            values = dict([(name, 0) for name in self.zeros] + list(told[0].items()))
            word = self.failure(values, told[1])
            if self.flaw is None and word is not None:
                self.flaw = ("bad", self.start, word, values, told[1])

    def failure(self, values, heap):
        """How a state of the section's begin, that comes to no call, fails: `fall` or `unfit`; or None."""
        machine = Machine(self.program, self.procedure[0], self.start, values, heap)
        telling = self.told_where(machine)
        while telling is None and machine.word() == "on":
            machine.step()
            telling = self.told_where(machine)
        if telling is None:
            return "fall"
        return None if fits(machine.held(), machine.heap(), telling) else "unfit"

    def told_where(self, machine):
        """What is told where a machine stands, None within the section."""
        place = machine.where()
        return end_telling(self.procedure, (len(self.procedure[5]),) if place is None else place[1])


def looked(program, name):
    """`("good",)`, or `("bad", path, word, values, heap)` with what fails (32, 33)."""
    procedure = by_names(program)[name]
    for path in begins(procedure[5]):
        flaw = Section(program, procedure, path).look()
        if flaw is not None:
            return flaw
    return ("good",)
