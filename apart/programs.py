"""Programs: which lists are programs, and which names a procedure has."""

from apart.errors import NoProgram
from apart.tellings import are_rows, is_fact, is_name, is_telling, is_value, names_of

FIELDS = ("first", "second")
# What stands behind the word of a deed that has no deeds in it and calls nothing.
PLAIN_FORMS = {
    "set": ("name", "value"),
    "read": ("name", "name", "field"),
    "write": ("name", "field", "value"),
    "new": ("name", "value", "value"),
    "free": ("name",),
}
GIVING_WORDS = ("set", "read", "new", "call")
# Where in a deed that needs a cell the name of its address stands.
CELL_PLACES = {"read": 2, "write": 1, "free": 1}

MOST_PROCEDURES = 4
MOST_PARAMS = 4
MOST_NAMES = 6
MOST_DEEDS = 30
MOST_AROUND = 4


def may_stand(sort, word):
    """Whether a word may stand where a name, a value or a field must."""
    if not isinstance(word, str):
        return False
    if sort == "field":
        return word in FIELDS
    return is_name(word) if sort == "name" else is_value(word)


def are_of_sort(sort, words):
    """Whether these are a tuple of texts each of which may stand there."""
    return isinstance(words, tuple) and all([may_stand(sort, word) for word in words])


def is_plain_deed(deed):
    """Whether a tuple, whose first thing is a text, is a deed with no deeds in it that calls nothing (23)."""
    sorts = PLAIN_FORMS.get(deed[0])
    if sorts is None or len(deed) != len(sorts) + 1:
        return False
    return all([may_stand(sort, word) for sort, word in zip(sorts, deed[1:])])


def is_call(deed):
    """Whether a tuple of four is a call as far as its words go; which procedures there are is not looked at."""
    if deed[1] != "" and not may_stand("name", deed[1]):
        return False
    return may_stand("name", deed[2]) and are_of_sort("value", deed[3])


def is_condition(condition):
    """Whether this is a condition (23)."""
    return are_rows([condition]) and is_fact(condition)


def is_branching(deed, around):
    """Whether a tuple of four is an if or a while that stands within so many others."""
    if not is_condition(deed[1]):
        return False
    if deed[0] == "while" and not is_telling(deed[2]):
        return False
    return all([are_deeds(deeds, around + 1) for deeds in lists_in(deed)])


def is_deed(deed, around):
    """Whether this is a deed (23) that stands within so many others."""
    if not isinstance(deed, tuple) or len(deed) == 0 or not isinstance(deed[0], str):
        return False
    if deed[0] in ("if", "while"):
        return len(deed) == 4 and is_branching(deed, around)
    if deed[0] == "call":
        return len(deed) == 4 and is_call(deed)
    return is_plain_deed(deed)


def are_deeds(deeds, around):
    """Whether this is a list of deeds, each within so many others and no more than may be (24)."""
    if not isinstance(deeds, list) or (deeds and around > MOST_AROUND):
        return False
    return all([is_deed(deed, around) for deed in deeds])


def lists_in(deed):
    """The lists of deeds that an if or a while has in it, none for other deeds."""
    if deed[0] == "if":
        return [deed[2], deed[3]]
    return [deed[3]] if deed[0] == "while" else []


def own_deed(deed):
    """The same deed, all of whose lists are new ones."""
    if deed[0] == "if":
        return deed[:2] + (own_deeds(deed[2]), own_deeds(deed[3]))
    if deed[0] == "while":
        return deed[:2] + ((list(deed[2][0]), list(deed[2][1])), own_deeds(deed[3]))
    return deed


def own_deeds(deeds):
    """The same deeds, all of whose lists are new ones."""
    return [own_deed(deed) for deed in deeds]


def cell_name(deed):
    """The name of the address at which a cell must lie for a deed to be done, None where it needs none."""
    place = CELL_PLACES.get(deed[0])
    return None if place is None else deed[place]


def all_deeds(deeds):
    """All deeds of a list, each ahead of those in it."""
    found = []
    for deed in deeds:
        found.append(deed)
        for inner in lists_in(deed):
            found.extend(all_deeds(inner))
    return found


def words_of(deed):
    """The words of a deed, without those in it, that stand for values, nil and the text without signs among them."""
    if deed[0] == "call":
        return [deed[1]] + list(deed[3])
    if deed[0] == "if":
        return list(deed[1][1:])
    if deed[0] == "while":
        return list(deed[1][1:]) + names_of(deed[2])
    # A field is no name here, though a name may be written like one.
    return [word for sort, word in zip(PLAIN_FORMS[deed[0]], deed[1:]) if sort != "field"]


def names_in(procedure):
    """The sorted list of the names of a procedure (22)."""
    words = list(procedure[1]) + [procedure[2]] + names_of(procedure[3]) + names_of(procedure[4])
    for deed in all_deeds(procedure[5]):
        words.extend(words_of(deed))
    return sorted(set([word for word in words if is_name(word)]))


def is_head(procedure):
    """Whether all of a procedure ahead of its body is of its form (22)."""
    if not isinstance(procedure, tuple) or len(procedure) != 6:
        return False
    params = procedure[1]
    if not may_stand("name", procedure[0]) or not are_of_sort("name", params):
        return False
    if len(params) > MOST_PARAMS or len(set(params)) < len(params) or procedure[2] in params:
        return False
    if procedure[2] != "" and not may_stand("name", procedure[2]):
        return False
    return is_telling(procedure[3]) and is_telling(procedure[4])


def has_its_names(procedure):
    """Whether a procedure names no more than it may, and nowhere what it may not name there (22, 24)."""
    params = list(procedure[1])
    if not all([name in params for name in names_of(procedure[3])]):
        return False
    if not all([name in params + [procedure[2]] for name in names_of(procedure[4])]):
        return False
    for deed in all_deeds(procedure[5]):
        if deed[0] in GIVING_WORDS and deed[1] in params:
            return False
    return len(names_in(procedure)) <= MOST_NAMES


def finds_procedure(deed, called):
    """Whether a call has as many values as the called one has params, and a name for its result, if it has one."""
    return len(deed[3]) == len(called[1]) and (deed[1] == "") == (called[2] == "")


def is_procedure(procedure):
    """Whether this is a procedure, but for which others it calls."""
    return is_head(procedure) and are_deeds(procedure[5], 0) and has_its_names(procedure)


def by_names(program):
    """The procedures of a program by their names."""
    return dict([(procedure[0], procedure) for procedure in program])


def is_program(program):
    """Whether this is a program (22 to 24)."""
    if not isinstance(program, list) or not 1 <= len(program) <= MOST_PROCEDURES:
        return False
    if not all([is_procedure(procedure) for procedure in program]):
        return False
    procedures = by_names(program)
    deeds = []
    for procedure in program:
        deeds.extend(all_deeds(procedure[5]))
    if len(procedures) < len(program) or len(deeds) > MOST_DEEDS:
        return False
    calls = [deed for deed in deeds if deed[0] == "call"]
    return all([deed[2] in procedures and finds_procedure(deed, procedures[deed[2]]) for deed in calls])


def check_program(program):
    """Refuse with NoProgram what is no program."""
    if not is_program(program):
        raise NoProgram("no program")
