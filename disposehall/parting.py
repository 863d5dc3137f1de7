"""Parting: a life with as few kinds as can be, for which two terms do not tell the same."""

from disposehall.clauses import least, place_of


# For lives of some kinds alone, a term's least clauses are those that have no
# other kinds. So no life with fewer kinds than the first clause that only one
# of the terms has can part them.
def parting(one, other):
    ones = least(one)
    others = least(other)
    clauses = only_in(ones, others) + only_in(others, ones)
    if len(clauses) == 0:
        return None
    return life_of(min(clauses, key=place_of))


def only_in(ones, others):
    return [clause for clause in ones if clause not in others]


# All kinds of the clause come to one day in this life, and a clause tells that
# day or an earlier one only if it is at or below this clause. The term that has
# this clause tells that day; the other one has none at or below it, since such
# a clause would come ahead of it as one that only one of the terms has.
def life_of(clause):
    latest = max(clause.values())
    life = {}
    for kind, length in clause.items():
        life[kind] = latest - length
    return life
