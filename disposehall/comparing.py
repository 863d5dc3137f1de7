"""Comparing: whether two books are alike, or which life of a record in which series parts them."""

from disposehall.books import term_of
from disposehall.errors import Unlike
from disposehall.parting import parting


def parted(one, other):
    ones = names_of(one)
    others = names_of(other)
    strange = [name for name in ones + others if name not in ones or name not in others]
    if len(strange) > 0:
        raise Unlike(min(strange))
    found = []
    for name in sorted(ones):
        life = parting(term_of(one, name), term_of(other, name))
        if life is not None:
            found.append((name, life))
    # Of several with as few kinds, min tells the first one: the least series.
    return min(found, key=kinds_told, default=None)


def names_of(book):
    return [series[0] for series in book]


def kinds_told(found):
    return len(found[1])
