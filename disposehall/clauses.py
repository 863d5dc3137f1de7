"""Clauses: a term as the earliest of latest days, in the one least form."""

from disposehall.errors import TooWide
from disposehall.terms import After, Earlier, Later

MOST_CLAUSES = 40


def told_by(clause, life):
    if any([kind not in life for kind in clause]):
        return None
    return max([life[kind] + length for kind, length in clause.items()])


def is_below(one, other):
    return all([kind in other and length <= other[kind] for kind, length in one.items()])


# The order in which clauses are told. A clause that is below another one has
# fewer kinds, or the same ones with a shorter length at the first that is
# unlike: so it always comes ahead of that other one.
def place_of(clause):
    return (len(clause), sorted(clause.items()))


# Each part is made least by itself, since a part that is too wide is refused
# even where the whole term would not be.
def least(term):
    if isinstance(term, After):
        return [{term.kind: term.days}]
    if isinstance(term, Earlier):
        return thinned(least(term.one) + least(term.other))
    if isinstance(term, Later):
        return thinned(all_joined(least(term.one), least(term.other)))
    return []


# By their order, no clause that is still to come is below one that was kept:
# what is kept stays, and too many of them are too many for good.
def thinned(clauses):
    kept = []
    for clause in sorted(clauses, key=place_of):
        if not any([is_below(low, clause) for low in kept]):
            kept.append(clause)
        if len(kept) > MOST_CLAUSES:
            raise TooWide(f"a part of the term has more than {MOST_CLAUSES} least clauses")
    return kept


# The later one of two earliest days is the earliest of the later ones of each two.
def all_joined(ones, others):
    clauses = []
    for one in ones:
        clauses.extend([joined(one, other) for other in others])
    return clauses


def joined(one, other):
    clause = dict(one)
    for kind, length in other.items():
        clause[kind] = max(length, one.get(kind, length))
    return clause
