"""The desk: it answers rows about a program."""

from apart.errors import NoName, NoRow
from apart.follow import followed
from apart.look import looked
from apart.machine import Machine
from apart.notes import read_telling
from apart.programs import by_names, names_in
from apart.tellings import FIGURES
from apart.texts import read_program

MOST_FIGURES = 60
MOST_STEPS = 5000


def is_number(word):
    """Whether a word writes a number, without noughts ahead and of no more figures than may be."""
    if word == "" or len(word) > MOST_FIGURES or not all([sign in FIGURES for sign in word]):
        return False
    return word == "0" or word[0] != "0"


def is_run(words):
    """Whether the words are a row that asks for a run, as far as can be seen without the program."""
    if words[0] != "run" or len(words) < 3 or words[1] == "":
        return False
    return all([is_number(word) for word in words[2:]]) and int(words[2]) <= MOST_STEPS


def follows(words):
    """The answer to whether one telling follows from another; the first word `then` parts the two."""
    middle = words.index("then")
    one = read_telling(" ".join(words[1:middle]))
    other = read_telling(" ".join(words[middle + 1:]))
    return "yes" if followed(one, other)[0] == "paper" else "no"


def verdict(name, answer):
    """What is said of a procedure that was looked through."""
    if answer[0] == "good":
        return name + " good"
    return " ".join([name, "bad", ".".join([str(number) for number in answer[1]]), answer[2]])


class Desk:
    """A program that is asked about row by row."""

    def __init__(self, text):
        self.program = read_program(text)

    def say(self, row):
        """The answer to a row (36)."""
        words = row.split(" ")
        if words == ["look"]:
            return ", ".join([verdict(each[0], looked(self.program, each[0])) for each in self.program])
        if words[0] == "follows" and "then" in words:
            return follows(words)
        if is_run(words):
            return self.run(words[1], int(words[2]), [int(word) for word in words[3:]])
        raise NoRow("no row that is answered")

    def run(self, name, steps, numbers):
        """The answer to how a procedure runs."""
        procedures = by_names(self.program)
        if name not in procedures:
            raise NoName("no procedure has the name")
        procedure = procedures[name]
        if len(numbers) != len(procedure[1]):
            raise NoRow("another number of numbers than params")
        values = dict([(each, 0) for each in names_in(procedure)] + list(zip(procedure[1], numbers)))
        machine = Machine(self.program, name, (0,), values, {})
        machine.go(steps)
        if machine.word() == "end" and procedure[2] != "":
            return "end " + str(machine.held()[procedure[2]])
        return machine.word()
