"""Promise 14, and promise 2 as far as it speaks of parting."""

import itertools
import random
import unittest

from disposehall.errors import TooWide
from disposehall.parting import parting
from disposehall.terms import after, earlier, later, never, term_read

HUGE = 10 ** 50 - 1


def chain(sort, terms):
    whole = terms[0]
    for term in terms[1:]:
        whole = sort(whole, term)
    return whole


def choice(kinds):
    return chain(earlier, [after(kind, 0) for kind in kinds])


def product(*groups):
    """A term of as many least clauses as one kind of each group can be picked."""
    return chain(later, [choice(kinds) for kinds in groups])


def some_term(source, leaves, kinds, most):
    if leaves == 1:
        return never() if source.random() < 0.08 else after(source.choice(kinds), source.randint(0, most))
    left = source.randint(1, leaves - 1)
    sort = source.choice([later, earlier])
    return sort(some_term(source, left, kinds, most), some_term(source, leaves - left, kinds, most))


def fewest(one, other, kinds, most):
    """With how few kinds a life parts the terms, or None: every life of days up
    to the greatest length is tried, from the smallest lives on."""
    for many in range(len(kinds) + 1):
        for picked in itertools.combinations(kinds, many):
            for days in itertools.product(range(most + 2), repeat=many):
                life = dict(zip(picked, days))
                if one.due(life) != other.due(life):
                    return many
    return None


class PartingTest(unittest.TestCase):
    def parts(self, one, other, many):
        for left, right in [(one, other), (other, one)]:
            with self.subTest(one=left.shown(), other=right.shown()):
                life = parting(left, right)
                self.assertIs(type(life), dict)
                self.assertEqual(len(life), many)
                self.assertNotEqual(left.due(life), right.due(life))
                for kind, day in life.items():
                    self.assertIs(type(kind), str)
                    self.assertIs(type(day), int)
                    self.assertGreaterEqual(day, 0)
                self.assertEqual(parting(left, right), life)

    def alike(self, one, other):
        with self.subTest(one=one.shown(), other=other.shown()):
            self.assertIsNone(parting(one, other))
            self.assertIsNone(parting(other, one))

    def test_the_same_term(self):
        for term in [never(), after("a", 3), later(after("a", 3), after("b", 1)), earlier(after("a", 3), never())]:
            self.alike(term, term)
            self.alike(term, term_read(term.shown()))

    def test_alike_terms_written_otherwise(self):
        self.alike(never(), later(never(), after("a", 3)))
        self.alike(never(), later(earlier(after("a", 3), after("b", 1)), never()))
        self.alike(term_read("after a 12m"), term_read("after a 1y"))
        self.alike(later(after("a", 3), after("b", 1)), later(after("b", 1), after("a", 3)))
        self.alike(earlier(after("a", 3), after("a", 5)), after("a", 3))
        self.alike(later(after("a", 3), after("a", 5)), after("a", 5))
        self.alike(earlier(after("a", 3), later(after("a", 3), after("b", 9))), after("a", 3))
        one = later(after("a", 1), earlier(after("b", 2), after("c", 3)))
        other = earlier(later(after("c", 3), after("a", 1)), later(after("b", 2), after("a", 1)))
        self.alike(one, other)

    def test_by_one_kind(self):
        self.parts(after("a", 3), after("a", 4), 1)
        self.parts(after("a", 0), after("a", HUGE), 1)
        self.parts(after("a", 3), after("b", 3), 1)
        self.parts(earlier(after("a", 3), after("b", 3)), after("a", 3), 1)
        self.parts(later(after("a", 3), after("b", 3)), after("b", 3), 1)
        self.parts(later(after("a", 3), after("b", 3)), earlier(after("a", 3), after("b", 3)), 1)

    def test_never_against_another(self):
        self.parts(never(), after("a", 0), 1)
        self.parts(never(), earlier(after("b", 2), after("a", 1)), 1)
        self.parts(never(), later(after("b", 2), after("a", 1)), 2)
        self.parts(later(never(), after("a", 0)), later(later(after("b", 2), after("a", 1)), after("c", 0)), 3)
        self.parts(never(), chain(later, [after(kind, 7) for kind in "abcdefghijklmno"]), 15)

    def test_by_several_kinds(self):
        pair = later(after("a", 3), after("b", 1))
        self.parts(later(pair, after("c", 0)), pair, 2)
        self.parts(pair, later(after("a", 3), after("b", 2)), 2)
        self.parts(later(pair, after("c", 0)), later(pair, after("c", 1)), 3)
        self.parts(later(pair, after("c", 0)), later(pair, after("d", 0)), 3)
        self.parts(earlier(pair, after("c", 0)), earlier(later(after("a", 3), after("b", 2)), after("c", 0)), 2)

    def test_by_fewer_kinds_than_most_clauses_have(self):
        three = later(later(after("a", 3), after("b", 1)), after("c", 0))
        self.parts(earlier(three, after("d", 4)), earlier(later(three, after("e", 1)), after("d", 5)), 1)
        self.parts(earlier(three, later(after("d", 4), after("b", 0))), three, 2)

    def test_by_a_length_of_one_day(self):
        self.parts(after("a", 359), term_read("after a 1y"), 1)
        self.parts(later(after("a", 30), after("b", 360)), later(after("a", 29), after("b", 360)), 2)
        self.parts(later(after("a", HUGE), after("b", 0)), later(after("a", HUGE), after("b", 1)), 2)
        for less in [(1, 0, 0), (0, 1, 0), (0, 0, 1)]:
            one = chain(later, [after(kind, 5) for kind in "abc"])
            other = chain(later, [after(kind, 5 - low) for kind, low in zip("abc", less)])
            self.parts(one, other, 3)

    def test_same_kinds_with_one_clause_below_the_other(self):
        """Where one of two clauses that only one term has is below the other, not every life of the upper one parts."""
        one = later(after("a", 5), after("b", 5))
        for low in range(5):
            self.parts(one, later(after("a", 5), after("b", low)), 2)
            self.parts(one, later(after("a", low), after("b", 5)), 2)
        self.parts(earlier(one, later(after("a", 9), after("b", 0))), later(after("a", 5), after("b", 0)), 2)

    def test_every_two_of_small_terms(self):
        leaves = [never(), after("a", 0), after("a", 1), after("b", 1), after("b", 2)]
        terms = leaves + [sort(one, other) for sort in [later, earlier] for one in leaves for other in leaves]
        for one in terms:
            for other in terms:
                self.agrees(one, other, ["a", "b"], 2)

    def test_many_terms_against_every_life(self):
        source = random.Random(14)
        kinds = ["a", "b", "c"]
        found = {}
        for _ in range(400):
            one = some_term(source, source.randint(3, 8), kinds, 2)
            other = some_term(source, source.randint(3, 8), kinds, 2)
            if source.random() < 0.5:
                other = source.choice([later, earlier])(one, some_term(source, 2, kinds, 2))
            if source.random() < 0.5:
                three = chain(later, [after(kind, 2) for kind in kinds])
                one, other = later(one, three), later(other, three)
            many = self.agrees(one, other, kinds, 2)
            found[many] = found.get(many, 0) + 1
        self.assertEqual(sorted(found, key=str), [1, 2, 3, None])

    def agrees(self, one, other, kinds, most):
        many = fewest(one, other, kinds, most)
        if many is None:
            self.alike(one, other)
        else:
            self.parts(one, other, many)
        return many

    def test_terms_that_are_alike_are_parted_alike(self):
        one = later(after("a", 1), earlier(after("b", 2), after("c", 3)))
        for other in [never(), after("a", 4), later(after("a", 1), after("b", 2))]:
            before = parting(one, other)
            for _ in range(3):
                self.assertEqual(parting(one, other), before)

    def test_too_wide_on_either_side(self):
        wide = product("abcdef", "ghijklm")
        forty = product("abcde", "fghijklm")
        hidden = earlier(later(wide, after("z", 1)), after("z", 0))
        for term in [wide, hidden, later(wide, never()), earlier(after("z", 0), forty)]:
            for one, other in [(term, never()), (never(), term), (term, after("a", 0)), (forty, term), (term, term)]:
                with self.assertRaises(ValueError) as caught:
                    parting(one, other)
                self.assertIs(type(caught.exception), TooWide)
        self.alike(forty, product("mlkjihgf", "edcba"))
        self.parts(forty, product("abcde", "fghijkl"), 2)
        self.parts(forty, never(), 2)

    def test_great_lengths(self):
        one = later(after("a", HUGE), after("b", 0))
        self.parts(one, later(after("a", HUGE - 1), after("b", 0)), 2)
        self.parts(one, never(), 2)

    def test_the_life_is_the_askers_own(self):
        one = later(after("a", 3), after("b", 1))
        other = later(after("a", 3), after("b", 2))
        before = dict(parting(one, other))
        shown = (one.shown(), other.shown())
        kept = parting(one, other)
        told = parting(one, other)
        told["a"] = 99
        told["z"] = 1
        self.assertEqual(parting(one, other), before)
        self.assertEqual(kept, before)
        self.assertEqual((one.shown(), other.shown()), shown)
        told.clear()
        self.assertEqual(parting(one, other), before)


if __name__ == "__main__":
    unittest.main()
