"""What is known of facts and parts: alike and unlike, full and empty; what clashes, and what is open."""


def heads_of(facts):
    """For each that a fact `is` names, the one that stands for all that are known to be alike to it."""
    heads = {}
    for fact in facts:
        if fact[0] == "is":
            kept = heads.setdefault(fact[1], fact[1])
            gone = heads.setdefault(fact[2], fact[2])
            for name in list(heads):
                if heads[name] == gone:
                    heads[name] = kept
    return heads


def ends_of(part):
    """The two that are alike just where a stretch or a tree is empty."""
    return (part[1], part[2]) if part[0] == "stretch" else (part[1], "nil")


class Knowledge:
    """What is known of facts and parts (12); parts are named by their numbers."""

    def __init__(self, facts, parts):
        self.parts = list(parts)
        self.heads = heads_of(facts)
        self.unlikes = {}
        self.fulls = {}
        for fact in facts:
            if fact[0] == "not":
                self.tell_unlike(fact[1], fact[2])
        self.find_fulls()
        self.not_empty = [number for number in range(len(parts)) if not self.is_empty(number)]

    def head(self, word):
        """The one that stands for all that are known to be alike to this one."""
        return self.heads.get(word, word)

    def alike(self, one, other):
        """Whether two are known to be alike."""
        return self.head(one) == self.head(other)

    def unlike(self, one, other):
        """Whether two are known to be unlike."""
        return (self.head(one), self.head(other)) in self.unlikes

    def tell_unlike(self, one, other):
        """Keep that two are unlike."""
        self.unlikes[(self.head(one), self.head(other))] = True
        self.unlikes[(self.head(other), self.head(one))] = True

    def is_empty(self, number):
        """Whether a part is known to be empty."""
        ends = ends_of(self.parts[number])
        return self.parts[number][0] != "cell" and self.alike(ends[0], ends[1])

    def must_be_full(self, number):
        """Whether a part is full by what is unlike so far."""
        ends = ends_of(self.parts[number])
        return self.parts[number][0] == "cell" or self.unlike(ends[0], ends[1])

    def find_fulls(self):
        """Find the full parts: each one makes its place unlike to others, which may make more parts full."""
        found = [number for number in range(len(self.parts)) if self.must_be_full(number)]
        while found:
            for number in found:
                self.tell_full(number)
            waiting = [number for number in range(len(self.parts)) if number not in self.fulls]
            found = [number for number in waiting if self.must_be_full(number)]

    def tell_full(self, number):
        """Keep that a part is full, and what is unlike by it."""
        place = self.parts[number][1]
        self.tell_unlike(place, "nil")
        for other in self.fulls:
            self.tell_unlike(place, self.parts[other][1])
        self.fulls[number] = True

    def clashing(self):
        """Whether it clashes (13): a full part's place is unlike to nil and to each other one's already."""
        return any([pair[0] == pair[1] for pair in self.unlikes])

    def shares_place(self, number):
        """Whether a part's place is alike to nil or to that of another part that isn't known to be empty."""
        place = self.parts[number][1]
        others = [self.parts[other][1] for other in self.not_empty if other != number]
        return any([self.alike(place, word) for word in others + ["nil"]])

    def open_ends(self):
        """An open pair (14), or None where it is ready."""
        for number in self.not_empty:
            if number not in self.fulls and self.shares_place(number):
                return ends_of(self.parts[number])
        return None

    def number_at(self, place):
        """Of what is ready, the number of the part at a place that isn't known to be empty, or None."""
        for number in self.not_empty:
            if self.alike(self.parts[number][1], place):
                return number
        return None


def known(facts, parts, a, b):
    """What is known of two: `is`, `not`, or the text without signs."""
    knowledge = Knowledge(facts, parts)
    if knowledge.alike(a, b):
        return "is"
    return "not" if knowledge.unlike(a, b) else ""


def clashes(facts, parts):
    """Whether facts and parts clash (13)."""
    return Knowledge(facts, parts).clashing()


def open_pair(facts, parts):
    """Some open pair (14), or None where facts and parts are ready."""
    return Knowledge(facts, parts).open_ends()
