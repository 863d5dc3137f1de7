"""Terms: from which day on a record is due, by what was done with it."""

from disposehall.days import is_name, length_read, length_shown
from disposehall.errors import NoLength, NoTerm

MOST_WORDS = 61


# Each sort of term stands under this class and has the methods due(life),
# shown() and leaves(). None of them changes a term once it is made, so a term
# that is part of another one is as good as a copy of it.
class Term:
    pass


class Never(Term):
    def due(self, life):
        return None

    def shown(self):
        return "never"

    def leaves(self):
        return []


class After(Term):
    def __init__(self, kind, days):
        self.kind = kind
        self.days = days

    def due(self, life):
        if self.kind not in life:
            return None
        return life[self.kind] + self.days

    def shown(self):
        return " ".join(["after", self.kind, length_shown(self.days)])

    def leaves(self):
        return [(self.kind, self.days)]


class Pair(Term):
    def __init__(self, one, other):
        self.one = one
        self.other = other

    def leaves(self):
        return self.one.leaves() + self.other.leaves()


class Later(Pair):
    def due(self, life):
        one_day = self.one.due(life)
        other_day = self.other.due(life)
        if one_day is None or other_day is None:
            return None
        return max(one_day, other_day)

    def shown(self):
        return " ".join(["later", self.one.shown(), self.other.shown()])


class Earlier(Pair):
    def due(self, life):
        one_day = self.one.due(life)
        other_day = self.other.due(life)
        if one_day is None:
            return other_day
        if other_day is None:
            return one_day
        return min(one_day, other_day)

    def shown(self):
        return " ".join(["earlier", self.one.shown(), self.other.shown()])


def never():
    return Never()


def after(kind, days):
    return After(kind, days)


def later(one, other):
    return Later(one, other)


def earlier(one, other):
    return Earlier(one, other)


def term_read(text):
    words = text.split(" ")
    # Looked at first, so that the reading below never goes deeper than this.
    if len(words) > MOST_WORDS:
        raise NoTerm(f"a term has at most {MOST_WORDS} words")
    rest = list(reversed(words))
    term = part_taken(rest)
    if len(rest) > 0:
        raise NoTerm("words stand behind the term")
    return term


# The words that are not read yet are kept in a list from the last one to the
# next one; each of the functions below takes off its end what it reads.
def word_taken(rest):
    if len(rest) == 0:
        raise NoTerm("the term breaks off")
    return rest.pop()


def part_taken(rest):
    word = word_taken(rest)
    if word == "never":
        return never()
    if word == "after":
        kind = kind_taken(rest)
        return after(kind, length_taken(rest))
    if word == "later":
        one = part_taken(rest)
        return later(one, part_taken(rest))
    if word == "earlier":
        one = part_taken(rest)
        return earlier(one, part_taken(rest))
    raise NoTerm(f"no term begins with {word!r}")


def kind_taken(rest):
    word = word_taken(rest)
    if not is_name(word):
        raise NoTerm(f"{word!r} is no kind")
    return word


def length_taken(rest):
    word = word_taken(rest)
    try:
        return length_read(word)
    except NoLength:
        raise NoTerm(f"{word!r} is no length") from None
