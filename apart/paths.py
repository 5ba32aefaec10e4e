"""Paths: places in a body, and where its sections begin."""

from apart.programs import lists_in, own_deed


def list_of(body, path):
    """The list of deeds in which a path's last number counts."""
    deeds = body
    for place in range(0, len(path) - 1, 2):
        deeds = lists_in(deeds[path[place]])[path[place + 1]]
    return deeds


def found_at(body, path):
    """The deed itself at a settled path, None at the body's end."""
    deeds = list_of(body, path)
    return deeds[path[-1]] if path[-1] < len(deeds) else None


def deed_at(body, path):
    """The deed at a settled path, with lists of its own, None at the body's end (25)."""
    deed = found_at(body, path)
    return None if deed is None else own_deed(deed)


def behind_deed(path):
    """The path behind the deed at a path, settled or not."""
    return path[:-1] + (path[-1] + 1,)


def settled(body, path):
    """The path for which a path stands, and that stands for no other (25)."""
    while len(path) > 1 and path[-1] == len(list_of(body, path)):
        path = path[:-2]
        if found_at(body, path)[0] == "if":
            path = behind_deed(path)
    return path


def loops_in(deeds, ahead):
    """The paths of all whiles in a list of deeds, those in other deeds too; ahead stands ahead of each number."""
    found = []
    for number, deed in enumerate(deeds):
        path = ahead + (number,)
        if deed[0] == "while":
            found.append(path)
        for side, inner in enumerate(lists_in(deed)):
            found.extend(loops_in(inner, path + (side,)))
    return found


def begins(body):
    """The sorted list of the paths at which sections begin (30)."""
    found = [(0,)]
    for path in loops_in(body, ()):
        found.extend([path + (0, 0), behind_deed(path)])
    return sorted(found)
