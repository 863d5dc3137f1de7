"""Promises 11, 12 and 13, and promise 2 as far as it speaks of clauses."""

import itertools
import random
import unittest

from disposehall.clauses import is_below, least, told_by
from disposehall.errors import TooWide
from disposehall.terms import after, earlier, later, never, term_read

HUGE = 10 ** 50 - 1


def chain(sort, terms):
    whole = terms[0]
    for term in terms[1:]:
        whole = sort(whole, term)
    return whole


def choice(kinds):
    return chain(earlier, [after(kind, 0) for kind in kinds])


def product(*groups):
    """A term of as many least clauses as one kind of each group can be picked."""
    return chain(later, [choice(kinds) for kinds in groups])


def some_term(source, leaves, kinds, most):
    if leaves == 1:
        return never() if source.random() < 0.08 else after(source.choice(kinds), source.randint(0, most))
    left = source.randint(1, leaves - 1)
    sort = source.choice([later, earlier])
    return sort(some_term(source, left, kinds, most), some_term(source, leaves - left, kinds, most))


def lives(kinds, days):
    for picked in itertools.product([None] + list(days), repeat=len(kinds)):
        yield {kind: day for kind, day in zip(kinds, picked) if day is not None}


def clause_day(clause, life):
    """What a clause tells, written otherwise than in the program."""
    latest = -1
    for kind in clause:
        day = life.get(kind)
        if day is None:
            return None
        if day + clause[kind] > latest:
            latest = day + clause[kind]
    return latest


def below(one, other):
    return set(one) <= set(other) and not [kind for kind in one if one[kind] > other[kind]]


def places(clauses):
    return [(len(clause), sorted(clause.items())) for clause in clauses]


def least_by_due(term, kinds, most):
    """The least clauses, told by the term's own due days alone: a clause is at
    or behind one of them if its kinds, each done its length ahead of one day,
    bring the term to that day or an earlier one."""
    behind = []
    for clause in lives(kinds, range(most + 1)):
        if clause:
            day = max(clause.values())
            due = term.due({kind: day - length for kind, length in clause.items()})
            if due is not None and due <= day:
                behind.append(clause)
    lowest = [one for one in behind if not [other for other in behind if other != one and below(other, one)]]
    return sorted(lowest, key=lambda clause: (len(clause), sorted(clause.items())))


class ToldByTest(unittest.TestCase):
    def test_one_kind(self):
        for day, length in [(0, 0), (0, 7), (7, 0), (5, 3), (HUGE, HUGE)]:
            self.assertEqual(told_by({"a": length}, {"a": day}), day + length)

    def test_the_latest_of_its_kinds(self):
        clause = {"b": 4, "a": 10, "c": 0}
        self.assertEqual(told_by(clause, {"a": 1, "b": 1, "c": 1}), 11)
        self.assertEqual(told_by(clause, {"a": 1, "b": 8, "c": 1}), 12)
        self.assertEqual(told_by(clause, {"a": 1, "b": 8, "c": 13}), 13)
        self.assertEqual(told_by(clause, {"c": 11, "b": 7, "a": 1}), 11)
        self.assertEqual(told_by({"a": 0, "b": 0}, {"a": 0, "b": 0}), 0)

    def test_some_or_none_of_its_kinds(self):
        clause = {"a": 10, "b": 4}
        for life in [{}, {"a": 5}, {"b": 5}, {"c": 5}, {"a": 5, "c": 6}, {"c": 6, "b": 5}, {"a": 0}, {"b": 0}]:
            self.assertIsNone(told_by(clause, life))
        self.assertIsNone(told_by({"a": 0}, {}))
        self.assertIsNone(told_by({"a": 0}, {"aa": 3}))

    def test_other_kinds_of_the_life_change_nothing(self):
        self.assertEqual(told_by({"a": 3}, {"a": 4, "b": 100, "c": HUGE}), 7)
        self.assertEqual(told_by({"a": 3, "b": 0}, {"c": 100, "a": 4, "b": 1}), 7)

    def test_many_lives(self):
        for clause in lives(["a", "b", "c"], [0, 1, 4]):
            if clause:
                for life in lives(["a", "b", "c", "d"], [0, 2, 3]):
                    self.assertEqual(told_by(clause, life), clause_day(clause, life))

    def test_what_is_handed_in_stays_as_it_was(self):
        clause = {"b": 4, "a": 10}
        life = {"c": 1, "b": 2, "a": 3}
        told_by(clause, life)
        told_by(clause, {})
        self.assertEqual(list(clause.items()), [("b", 4), ("a", 10)])
        self.assertEqual(list(life.items()), [("c", 1), ("b", 2), ("a", 3)])


class IsBelowTest(unittest.TestCase):
    def test_each_is_at_or_below_itself(self):
        for clause in [{"a": 0}, {"a": 5}, {"a": 5, "b": 0}, {"a": HUGE, "b": 1, "c": 2}]:
            self.assertIs(is_below(clause, clause), True)
            self.assertIs(is_below(clause, dict(reversed(clause.items()))), True)

    def test_lengths(self):
        self.assertIs(is_below({"a": 4}, {"a": 5}), True)
        self.assertIs(is_below({"a": 5}, {"a": 4}), False)
        self.assertIs(is_below({"a": 0}, {"a": 0}), True)
        self.assertIs(is_below({"a": HUGE - 1}, {"a": HUGE}), True)
        self.assertIs(is_below({"a": HUGE}, {"a": HUGE - 1}), False)

    def test_one_length_longer_is_enough(self):
        self.assertIs(is_below({"a": 1, "b": 5}, {"a": 2, "b": 5}), True)
        self.assertIs(is_below({"a": 1, "b": 5}, {"a": 2, "b": 4}), False)
        self.assertIs(is_below({"a": 2, "b": 4}, {"a": 1, "b": 5}), False)
        self.assertIs(is_below({"b": 5, "a": 1}, {"a": 9, "b": 4}), False)

    def test_fewer_and_more_kinds(self):
        self.assertIs(is_below({"a": 5}, {"a": 5, "b": 0}), True)
        self.assertIs(is_below({"b": 5}, {"a": 0, "b": 6}), True)
        self.assertIs(is_below({"a": 5}, {"a": 4, "b": 9}), False)
        self.assertIs(is_below({"a": 5, "b": 0}, {"a": 5}), False)
        self.assertIs(is_below({"a": 0, "b": 0}, {"a": 5}), False)
        self.assertIs(is_below({"a": 0}, {"b": 5}), False)
        self.assertIs(is_below({"a": 0, "c": 0}, {"a": 5, "b": 5}), False)

    def test_as_the_days_that_are_told(self):
        """At or below is what tells no later day for any life."""
        clauses = [clause for clause in lives(["a", "b", "c"], [0, 1, 3]) if clause]
        all_lives = list(lives(["a", "b", "c"], [0, 1, 2, 3]))
        told = [[clause_day(clause, life) for life in all_lives] for clause in clauses]
        for one, ones in zip(clauses, told):
            for other, others in zip(clauses, told):
                never_later = all(
                    late is None or (early is not None and early <= late) for early, late in zip(ones, others)
                )
                self.assertIs(is_below(one, other), never_later)

    def test_what_is_handed_in_stays_as_it_was(self):
        one = {"b": 4, "a": 10}
        other = {"a": 11, "c": 1, "b": 9}
        is_below(one, other)
        is_below(other, one)
        self.assertEqual(list(one.items()), [("b", 4), ("a", 10)])
        self.assertEqual(list(other.items()), [("a", 11), ("c", 1), ("b", 9)])


class LeastTest(unittest.TestCase):
    def test_never(self):
        self.assertEqual(least(never()), [])
        self.assertEqual(least(later(never(), after("a", 3))), [])
        self.assertEqual(least(later(after("a", 3), never())), [])
        self.assertEqual(least(earlier(never(), never())), [])
        self.assertEqual(least(earlier(never(), after("a", 3))), [{"a": 3}])
        self.assertEqual(least(earlier(after("a", 3), never())), [{"a": 3}])

    def test_after(self):
        for kind, days in [("a", 0), ("a", 7), ("never", 360), ("abcdefghijkl", HUGE)]:
            self.assertEqual(least(after(kind, days)), [{kind: days}])

    def test_later(self):
        self.assertEqual(least(later(after("b", 3), after("a", 1))), [{"a": 1, "b": 3}])
        self.assertEqual(least(later(after("a", 3), after("a", 1))), [{"a": 3}])
        self.assertEqual(least(later(after("a", 1), after("a", 3))), [{"a": 3}])
        self.assertEqual(least(later(after("a", 0), after("b", 0))), [{"a": 0, "b": 0}])

    def test_earlier(self):
        self.assertEqual(least(earlier(after("b", 1), after("a", 3))), [{"a": 3}, {"b": 1}])
        self.assertEqual(least(earlier(after("a", 3), after("a", 1))), [{"a": 1}])
        self.assertEqual(least(earlier(after("a", 1), after("a", 3))), [{"a": 1}])
        self.assertEqual(least(earlier(after("a", 2), after("a", 2))), [{"a": 2}])

    def test_what_is_above_another_one_falls_away(self):
        self.assertEqual(least(earlier(later(after("a", 5), after("b", 0)), after("a", 5))), [{"a": 5}])
        self.assertEqual(least(earlier(after("a", 5), later(after("b", 0), after("a", 5)))), [{"a": 5}])
        self.assertEqual(
            least(earlier(after("a", 5), later(after("b", 0), after("a", 4)))), [{"a": 5}, {"a": 4, "b": 0}],
        )
        self.assertEqual(least(later(after("a", 5), earlier(after("a", 2), after("b", 9)))), [{"a": 5}])

    def test_terms_within_one_another(self):
        term = later(earlier(after("a", 1), after("b", 2)), earlier(after("a", 5), after("c", 0)))
        self.assertEqual(least(term), [{"a": 5}, {"a": 1, "c": 0}, {"b": 2, "c": 0}])
        term = term_read("earlier later after c 1d after b 2d later after b 1d earlier after c 3d after a 0y")
        self.assertEqual(least(term), [{"a": 0, "b": 1}, {"b": 1, "c": 3}, {"b": 2, "c": 1}])

    def test_order(self):
        kinds = ["b", "aa", "d", "a", "abc", "ab", "c"]
        term = chain(earlier, [after(kind, 90 - len(kind)) for kind in kinds])
        self.assertEqual([list(clause) for clause in least(term)], [[kind] for kind in sorted(kinds)])
        pairs = [("c", 3, "a", 1), ("b", 0, "a", 20), ("a", 3, "b", 1), ("a", 3, "d", 0), ("d", 1, "c", 10)]
        term = chain(earlier, [later(after(k, m), after(n, o)) for k, m, n, o in pairs] + [after("e", 100)])
        self.assertEqual(
            least(term),
            [{"e": 100}, {"a": 1, "c": 3}, {"a": 3, "b": 1}, {"a": 3, "d": 0}, {"a": 20, "b": 0}, {"c": 10, "d": 1}],
        )

    def test_lengths_are_ordered_as_numbers(self):
        term = earlier(later(after("a", 10), after("b", 1)), later(after("a", 9), after("b", 2)))
        self.assertEqual(least(term), [{"a": 9, "b": 2}, {"a": 10, "b": 1}])

    def test_by_the_due_days_of_the_term(self):
        source = random.Random(11)
        kinds = ["a", "b", "c"]
        wide = 0
        for _ in range(400):
            term = some_term(source, source.randint(1, 9), kinds, 3)
            told = least(term)
            with self.subTest(term=term.shown()):
                self.assertEqual(told, least_by_due(term, kinds, 3))
                self.assertEqual(places(told), sorted(places(told)))
            wide = max(wide, len(told))
        self.assertGreater(wide, 4)

    def test_for_every_life_the_earliest_day_of_a_clause(self):
        source = random.Random(12)
        kinds = ["a", "b", "c", "d"]
        all_lives = list(lives(kinds + ["e"], [0, 2, 5]))
        for _ in range(60):
            term = some_term(source, source.randint(2, 14), kinds, 6)
            told = least(term)
            with self.subTest(term=term.shown()):
                for life in all_lives:
                    days = [clause_day(clause, life) for clause in told]
                    self.assertEqual(min([day for day in days if day is not None], default=None), term.due(life))
                for one, other in itertools.permutations(told, 2):
                    self.assertFalse(below(one, other))

    def test_alike_terms(self):
        source = random.Random(13)
        kinds = ["a", "b", "c", "d"]
        for _ in range(100):
            one, other, third = [some_term(source, source.randint(1, 4), kinds, 4) for _ in range(3)]
            self.alike(later(one, other), later(other, one))
            self.alike(earlier(one, other), earlier(other, one))
            self.alike(one, later(one, one), earlier(one, one))
            self.alike(one, later(one, earlier(one, other)), earlier(later(other, one), one))
            self.alike(later(one, earlier(other, third)), earlier(later(one, other), later(one, third)))
            self.alike(earlier(one, later(other, third)), later(earlier(one, other), earlier(one, third)))
            self.alike(later(one, later(other, third)), later(later(one, other), third))
            self.alike(earlier(one, earlier(other, third)), earlier(earlier(one, other), third))
            self.alike(one, term_read(one.shown()))

    def alike(self, *terms):
        told = [least(term) for term in terms]
        for one in told:
            self.assertEqual(one, told[0])

    def test_great_lengths(self):
        term = later(earlier(after("a", HUGE), after("b", HUGE - 1)), earlier(after("a", HUGE - 1), after("b", HUGE)))
        self.assertEqual(least(term), [{"a": HUGE}, {"b": HUGE}, {"a": HUGE - 1, "b": HUGE - 1}])

    def test_kinds_of_what_is_told(self):
        told = least(later(earlier(after("a", 1), after("b", 2)), after("c", 3)))
        self.assertIs(type(told), list)
        self.assertEqual([type(clause) for clause in told], [dict, dict])
        self.assertEqual([type(length) for clause in told for length in clause.values()], [int] * 4)

    def test_the_list_is_the_askers_own(self):
        part = earlier(after("a", 1), after("b", 2))
        for term in [never(), after("a", 1), part, later(part, after("c", 3)), earlier(part, never())]:
            before = [dict(clause) for clause in least(term)]
            shown = term.shown()
            kept = least(term)
            told = least(term)
            for clause in told:
                clause["z"] = 5
                clause["a"] = 77
            told.append({"q": 1})
            self.assertEqual(least(term), before)
            self.assertEqual(kept, before)
            self.assertEqual(term.shown(), shown)
            told.clear()
            self.assertEqual(least(term), before)

    def test_no_clause_stands_twice(self):
        whole = later(earlier(after("a", 1), after("b", 2)), earlier(after("a", 1), after("b", 2)))
        told = least(whole)
        told[0]["a"] = 9
        self.assertEqual(told[1], {"b": 2})
        self.assertEqual(least(whole), [{"a": 1}, {"b": 2}])


class TooWideTest(unittest.TestCase):
    def too_wide(self, term):
        with self.subTest(term=term.shown()):
            with self.assertRaises(ValueError) as caught:
                least(term)
            self.assertIs(type(caught.exception), TooWide)

    def test_just_forty(self):
        for term in [product("abcde", "fghijklm"), product("ab", "cdef", "ghijk"),
                     earlier(product("abc", "def", "ghij"), choice("klmn")),
                     later(product("abcde", "fghijklm"), after("z", 4))]:
            self.assertLessEqual(len(term.shown().split(" ")), 61)
            told = least(term)
            self.assertEqual(len(told), 40)
            self.assertEqual(places(told), sorted(places(told)))
        self.assertEqual(least(product("abcde", "fghijklm"))[:2], [{"a": 0, "f": 0}, {"a": 0, "g": 0}])

    def test_forty_one(self):
        forty = product("abcde", "fghijklm")
        self.too_wide(earlier(forty, after("z", 4)))
        self.too_wide(earlier(after("z", 4), forty))
        self.too_wide(earlier(product("abc", "def", "ghij"), choice("klmno")))
        self.too_wide(earlier(choice("klmno"), product("abc", "def", "ghij")))
        self.assertEqual(len(least(earlier(forty, later(after("a", 0), after("f", 1))))), 40)

    def test_more_than_forty(self):
        for term in [product("abcdef", "ghijklm"), product("abc", "def", "ghijk"), product("abcdefg", "hijklmno"),
                     product("abc", "def", "ghi", "jkl", "mno")]:
            self.assertLessEqual(len(term.shown().split(" ")), 61)
            self.too_wide(term)

    def test_a_part_that_is_too_wide_within_a_term_of_fewer(self):
        wide = product("abcdef", "ghijklm")
        self.too_wide(later(wide, never()))
        self.too_wide(later(never(), wide))
        self.too_wide(earlier(after("z", 0), later(after("z", 1), wide)))
        self.too_wide(earlier(later(wide, after("z", 1)), after("z", 0)))
        self.too_wide(earlier(later(never(), later(wide, never())), after("z", 0)))
        just = earlier(product("abcde", "fghijklm"), after("a", 0))
        self.assertEqual(len(least(just)), 33)
        self.too_wide(earlier(earlier(product("abcde", "fghijklm"), after("z", 0)), after("a", 0)))

    def test_many_clauses_of_which_few_are_least(self):
        """Forty is told of least clauses, not of those that fall away on the way to them."""
        seven = choice("abcdefg")
        self.assertEqual(least(later(seven, seven)), [{kind: 0} for kind in "abcdefg"])
        self.assertEqual(len(least(later(choice("abcdefg"), choice("abcdefh")))), 7)
        forty = product("abcde", "fghijklm")
        self.assertEqual(least(earlier(forty, forty)), least(forty))

    def test_one_kind_with_many_lengths_is_not_wide(self):
        lengths = chain(earlier, [after("a", 40 - n) for n in range(15)])
        self.assertEqual(least(lengths), [{"a": 26}])
        self.assertEqual(least(later(lengths, later(lengths, after("b", 1)))), [{"a": 26, "b": 1}])

    def test_narrow_terms_of_many_words(self):
        for sort in [later, earlier]:
            deep = chain(sort, [after(kind, 1) for kind in "abcdefghijklmno"])
            turned = chain(lambda one, other: sort(other, one), [after(kind, 1) for kind in "abcdefghijklmno"])
            self.assertEqual(least(deep), least(turned))
        self.assertEqual(least(deep), [{kind: 1} for kind in "abcdefghijklmno"])

    def test_after_a_refusal_all_is_as_it_was(self):
        self.too_wide(product("abcdef", "ghijklm"))
        self.assertEqual(least(earlier(after("b", 1), after("a", 3))), [{"a": 3}, {"b": 1}])


if __name__ == "__main__":
    unittest.main()
