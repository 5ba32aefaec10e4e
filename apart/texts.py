"""Programs as texts: reading and showing them."""

from apart.errors import NoText, NoTelling
from apart.notes import read_telling, show_fact, show_telling
from apart.programs import are_of_sort, check_program, is_call, is_condition, is_plain_deed, lists_in


def telling_in(words):
    """The telling that words write together, or None."""
    try:
        return read_telling(" ".join(words))
    except NoTelling:
        return None


def condition_in(words):
    """The condition that three words write, or None."""
    condition = (words[1], words[0], words[2])
    return condition if is_condition(condition) else None


def simple_deed(words):
    """The deed that a row of these words is by itself, or None."""
    if words[0] == "call" and len(words) > 1:
        deed = ("call", "", words[1], tuple(words[2:]))
        return deed if is_call(deed) else None
    if words[0] == "take" and len(words) > 2 and words[1] != "":
        deed = ("call", words[1], words[2], tuple(words[3:]))
        return deed if is_call(deed) else None
    return tuple(words) if is_plain_deed(words) else None


def opening(words):
    """What is told of an if or a while ahead of its deeds, where a row of these words begins one; else None."""
    if words[0] == "if" and len(words) == 4:
        condition = condition_in(words[1:])
        return None if condition is None else ("if", condition)
    if words[0] == "while" and len(words) > 5 and words[4] == "with":
        condition = condition_in(words[1:4])
        telling = telling_in(words[5:])
        return None if condition is None or telling is None else ("while", condition, telling)
    return None


class Reading:
    """A program as its rows are read, one by one.

    Heading is what has been read of a procedure ahead of its deeds. Around has, for the procedure and for each if
    and while that hasn't come to its end, a pair: what is told of it ahead of its deeds, and its lists of deeds.
    """

    def __init__(self):
        self.program = []
        self.heading = []
        self.around = []

    def takes(self, row):
        """Whether a text may go on with this row; if so, it is taken."""
        words = row.split(" ")
        return self.takes_deed(words) if self.around else self.takes_heading(words)

    def takes_heading(self, words):
        """Whether the words are the row that is due ahead of the deeds, or one of them; if so, they are taken."""
        if len(self.heading) == 0:
            return self.takes_proc(words)
        if len(self.heading) == 2 and words[0] == "gives":
            return self.takes_result(words)
        if words[0] != ("behind" if len(self.heading) == 4 else "before"):
            return False
        telling = telling_in(words[1:])
        if telling is None:
            return False
        if len(self.heading) == 2:
            self.heading.append("")
        self.heading.append(telling)
        if len(self.heading) == 5:
            self.around.append((("proc",), [[]]))
        return True

    def takes_proc(self, words):
        """Whether the words begin a procedure; if so, they are taken."""
        if words[0] != "proc" or len(words) < 2 or not are_of_sort("name", tuple(words[1:])):
            return False
        self.heading = [words[1], tuple(words[2:])]
        return True

    def takes_result(self, words):
        """Whether the words name a result; if so, they are taken."""
        if len(words) != 2 or not are_of_sort("name", tuple(words[1:])):
            return False
        self.heading.append(words[1])
        return True

    def takes_deed(self, words):
        """Whether the words are a deed, begin one, part its deeds or end them; if so, they are taken."""
        if words == ["else"]:
            return self.takes_else()
        if words == ["end"]:
            return self.takes_end()
        start = opening(words)
        if start is not None:
            self.around.append((start, [[]]))
            return True
        deed = simple_deed(words)
        if deed is not None:
            self.put(deed)
        return deed is not None

    def takes_else(self):
        """Whether second deeds may come now; if so, they do."""
        lists = self.around[-1][1]
        if self.around[-1][0][0] != "if" or len(lists) == 2:
            return False
        lists.append([])
        return True

    def takes_end(self):
        """Whether what is told last may end now; if so, it does."""
        lists = self.around[-1][1]
        if len(lists) == 2 and len(lists[1]) == 0:
            return False
        start = self.around.pop()[0]
        if start[0] == "proc":
            self.program.append(tuple(self.heading) + (lists[0],))
            self.heading = []
        elif start[0] == "if":
            self.put(start + (lists[0], lists[1] if len(lists) == 2 else []))
        else:
            self.put(start + (lists[0],))
        return True

    def put(self, deed):
        """Put a deed behind those that were read last."""
        self.around[-1][1][-1].append(deed)


def read_program(text):
    """The program that a text writes; one whose rows are not so is refused with NoText, then NoProgram is due (26)."""
    reading = Reading()
    rows = text.split("\n")
    for number, row in enumerate(rows):
        if not reading.takes(row):
            raise NoText(number)
    if reading.heading:
        raise NoText(len(rows))
    check_program(reading.program)
    return reading.program


def simple_row(deed):
    """The row of a deed with no deeds in it."""
    if deed[0] != "call":
        return " ".join(deed)
    words = ["call"] if deed[1] == "" else ["take", deed[1]]
    return " ".join(words + [deed[2]] + list(deed[3]))


def rows_of_deed(deed):
    """The rows of a deed."""
    if len(lists_in(deed)) == 0:
        return [simple_row(deed)]
    row = deed[0] + " " + show_fact(deed[1])
    if deed[0] == "while":
        return [row + " with " + show_telling(deed[2])] + rows_of_deeds(deed[3]) + ["end"]
    second = ["else"] + rows_of_deeds(deed[3]) if deed[3] else []
    return [row] + rows_of_deeds(deed[2]) + second + ["end"]


def rows_of_deeds(deeds):
    """The rows of a list of deeds."""
    rows = []
    for deed in deeds:
        rows.extend(rows_of_deed(deed))
    return rows


def rows_of_procedure(procedure):
    """The rows of a procedure."""
    rows = [" ".join(["proc", procedure[0]] + list(procedure[1]))]
    if procedure[2] != "":
        rows.append("gives " + procedure[2])
    rows.append("before " + show_telling(procedure[3]))
    rows.append("behind " + show_telling(procedure[4]))
    return rows + rows_of_deeds(procedure[5]) + ["end"]


def show_program(program):
    """The text that writes a program."""
    rows = []
    for procedure in program:
        rows.extend(rows_of_procedure(procedure))
    return "\n".join(rows)
