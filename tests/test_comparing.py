"""Promise 25, and promise 2 as far as it speaks of comparing."""

import itertools
import random
import unittest

from disposehall.books import book_read, term_of
from disposehall.comparing import parted
from disposehall.errors import HallError, Unlike
from disposehall.terms import after, earlier, later, never, term_read

HUGE = 10 ** 50 - 1
KINDS = ["a", "b", "c"]
MOST = 2


def chain(sort, terms):
    whole = terms[0]
    for term in terms[1:]:
        whole = sort(whole, term)
    return whole


def fewest(one, other):
    """With how few kinds a life parts the terms, or None: every life of days up
    to the greatest length is tried, from the smallest lives on."""
    for many in range(len(KINDS) + 1):
        for picked in itertools.combinations(KINDS, many):
            for days in itertools.product(range(MOST + 2), repeat=many):
                life = dict(zip(picked, days))
                if one.due(life) != other.due(life):
                    return many
    return None


def some_term(chance, leaves):
    if leaves == 1:
        return never() if chance.random() < 0.08 else after(chance.choice(KINDS), chance.randint(0, MOST))
    left = chance.randint(1, leaves - 1)
    return chance.choice([later, earlier])(some_term(chance, left), some_term(chance, leaves - left))


def otherwise(chance, term):
    """A term that tells the same, made in another way."""
    shape = chance.randrange(4)
    more = some_term(chance, 2)
    if shape == 0:
        return term_read(term.shown())
    if shape == 1:
        return later(term, term)
    if shape == 2:
        return earlier(later(more, term), term)
    return later(earlier(term, more), term)


class BooksTest(unittest.TestCase):
    def alike(self, one, other):
        for left, right in [(one, other), (other, one), (one, one), (other, other)]:
            self.assertIsNone(parted(left, right))

    def unlike(self, one, other, name):
        for left, right in [(one, other), (other, one)]:
            for again in range(2):
                with self.assertRaises(HallError) as caught:
                    parted(left, right)
                self.assertIs(type(caught.exception), Unlike)
                self.assertEqual(caught.exception.name, name)
                self.assertIs(type(caught.exception.name), str)

    def parts(self, one, other, series, many):
        for left, right in [(one, other), (other, one)]:
            told = parted(left, right)
            self.assertIs(type(told), tuple)
            self.assertEqual(len(told), 2)
            self.assertEqual(told[0], series)
            self.assertIs(type(told[1]), dict)
            self.assertEqual(len(told[1]), many)
            for kind, day in told[1].items():
                self.assertIs(type(kind), str)
                self.assertIs(type(day), int)
                self.assertGreaterEqual(day, 0)
            self.assertNotEqual(term_of(left, series).due(told[1]), term_of(right, series).due(told[1]))
            self.assertEqual(parted(left, right), told)


class AlikeTest(BooksTest):
    def test_books_without_series(self):
        self.assertIsNone(parted([], []))

    def test_the_same_book(self):
        book = book_read("series m after x 3d\nseries k under m\nseries l under k never\nseries n later after x 1d after y 2d")
        self.alike(book, book)
        self.alike(book, list(book))

    def test_written_otherwise(self):
        one = book_read("series m after x 12m\nseries k under m\nseries l earlier after x 1d after y 2d\nseries n never")
        other = book_read("series m after x 360d\nseries k under m\nseries l earlier after y 2d after x 1d\n"
                          "series n later never after x 1d")
        self.alike(one, other)

    def test_in_another_order(self):
        one = book_read("series m after x 3d\nseries k after y 2d\nseries l never")
        for order in itertools.permutations(one):
            self.alike(one, list(order))

    def test_under_other_elders(self):
        one = book_read("series m after x 3d\nseries k under m\nseries l under k")
        other = book_read("series k after x 3d\nseries l under k\nseries m under l")
        self.alike(one, other)
        self.alike(one, book_read("series m after x 3d\nseries k under m\nseries l under m"))

    def test_a_term_of_an_elder_that_stands_by_itself_in_the_other(self):
        one = book_read("series m after x 3d\nseries k under m")
        self.alike(one, book_read("series m after x 3d\nseries k after x 3d"))
        self.alike(one, book_read("series m after x 3d\nseries k under m after x 3d"))
        self.alike(one, book_read("series k later after x 3d after x 2d\nseries m under k"))


class UnlikeTest(BooksTest):
    def test_a_series_in_just_one_of_both(self):
        one = book_read("series m after x 3d\nseries k under m")
        self.unlike(one, one[:1], "k")
        self.unlike(one, [], "k")
        self.unlike(one, book_read("series k after x 3d"), "m")
        self.unlike([], book_read("series z never"), "z")

    def test_several_of_them(self):
        one = book_read("series m never\nseries d never\nseries x never")
        other = book_read("series m never\nseries c never\nseries y never")
        self.unlike(one, other, "c")
        self.unlike(one, book_read("series e never\nseries m never\nseries y never"), "d")
        self.unlike(one, book_read("series a never\nseries m never\nseries d never\nseries x never"), "a")
        self.unlike(one, book_read("series m never\nseries aa never\nseries ab never\nseries b never"), "aa")

    def test_by_the_names_as_texts(self):
        one = book_read("series ab never\nseries b never\nseries abc never")
        self.unlike(one, book_read("series b never"), "ab")
        self.unlike(one, book_read("series ab never"), "abc")

    def test_ahead_of_series_that_part(self):
        one = book_read("series a after x 3d\nseries m never")
        other = book_read("series a after x 4d\nseries z never")
        self.unlike(one, other, "m")

    def test_as_many_series_with_other_names(self):
        self.unlike(book_read("series a never\nseries b never"), book_read("series a never\nseries c never"), "b")

    def test_every_two_sets_of_names(self):
        names = ["a", "b", "c", "ab"]
        picks = [pick for many in range(5) for pick in itertools.combinations(names, many)]
        for one, other in itertools.product(picks, repeat=2):
            books = [[(name, None, after("x", 1)) for name in pick] for pick in (one, other)]
            strange = set(one) ^ set(other)
            if strange:
                self.unlike(books[0], books[1], min(strange))
            else:
                self.alike(books[0], books[1])


class PartedTest(BooksTest):
    def test_in_one_series(self):
        one = book_read("series m after x 3d\nseries k after y 1d\nseries l never")
        self.parts(one, book_read("series m after x 4d\nseries k after y 1d\nseries l never"), "m", 1)
        self.parts(one, book_read("series m after x 3d\nseries k after y 2d\nseries l never"), "k", 1)
        self.parts(one, book_read("series m after x 3d\nseries k after y 1d\nseries l after y 0d"), "l", 1)
        self.parts(one, book_read("series l later after y 0d after x 0d\nseries k after y 1d\nseries m after x 3d"), "l", 2)

    def test_in_several_series_the_least(self):
        one = [(name, None, after("x", 3)) for name in ["m", "ab", "b", "a", "z"]]
        for many in range(1, 6):
            for picked in itertools.combinations([series[0] for series in one], many):
                other = [(name, None, after("x", 4 if name in picked else 3)) for name, elder, term in one]
                self.parts(one, other, min(picked), 1)
                self.parts(one, other[::-1], min(picked), 1)

    def test_the_fewest_kinds_ahead_of_the_least_name(self):
        pair = "later after x 3d after y 1d"
        one = book_read(f"series a {pair}\nseries b after x 1d\nseries c later {pair} after z 0d\nseries d {pair}")
        other = book_read("series a later after x 3d after y 2d\nseries b after x 2d\n"
                          f"series c later {pair} after z 1d\nseries d never")
        self.parts(one, other, "b", 1)
        same = one[:1] + other[1:2] + one[2:]
        self.parts(same, [other[0], other[1], other[2], one[3]], "a", 2)
        self.parts([one[2], one[3]], [other[2], other[3]], "d", 2)
        self.parts([one[2]], [other[2]], "c", 3)
        self.parts([one[2], one[0]], [other[2], one[0]], "c", 3)

    def test_by_an_elders_term(self):
        one = book_read("series m after x 3d\nseries k under m\nseries l under k")
        self.parts(one, book_read("series m after x 4d\nseries k under m\nseries l under k"), "k", 1)
        self.parts(one, book_read("series m after x 3d\nseries k under m after x 4d\nseries l under k"), "k", 1)
        self.parts(one, book_read("series m after x 3d\nseries k under m\nseries l under k never"), "l", 1)
        self.parts(one, book_read("series m after x 3d\nseries k under m\nseries l after y 3d"), "l", 1)
        self.parts(one, book_read("series k after x 2d\nseries m after x 3d\nseries l under m"), "k", 1)

    def test_books_of_chance_against_every_life(self):
        chance = random.Random(25)
        seen = {}
        three = chain(later, [after(kind, MOST) for kind in KINDS])
        for attempt in range(200):
            one, other = [], []
            for name in chance.sample(["a", "b", "ab", "z", "m"], 3):
                elder = chance.choice([None] + [series[0] for series in one])
                term = some_term(chance, chance.randint(1, 5))
                if chance.random() < 0.4:
                    term = later(term, three)
                one.append((name, elder, term if elder is None or chance.random() < 0.5 else None))
                changed = otherwise(chance, term_of(one, name))
                if chance.random() < 0.4:
                    changed = chance.choice([later, earlier])(changed, some_term(chance, 2))
                other.append((name, None, changed))
            chance.shuffle(other)
            found = [(fewest(term_of(one, name), term), name) for name, elder, term in other]
            found = sorted([told for told in found if told[0] is not None])
            if not found:
                self.alike(one, other)
                seen[None] = True
            else:
                self.parts(one, other, found[0][1], found[0][0])
                seen[found[0][0]] = True
        self.assertEqual(sorted(seen, key=str), [1, 2, 3, None])


class OwnTest(BooksTest):
    def test_what_is_told_is_the_askers_own_and_nothing_is_changed(self):
        one = book_read("series m after x 3d\nseries k under m later after y 1d after x 2d")
        other = book_read("series m after x 3d\nseries k under m later after y 1d after x 3d")
        ahead = (list(one), list(other))
        told = parted(one, other)
        again = parted(one, other)
        before = dict(again[1])
        told[1]["x"] = 99
        told[1].pop("y")
        self.assertEqual(again[1], before)
        self.assertEqual(parted(one, other), again)
        self.assertEqual((one, other), ahead)

    def test_the_books_are_not_kept(self):
        one = book_read("series m after x 3d")
        other = book_read("series m after x 3d")
        self.assertIsNone(parted(one, other))
        other[0] = ("m", None, never())
        self.parts(one, other, "m", 1)
        other.append(("n", None, never()))
        self.unlike(one, other, "n")


class SizeTest(BooksTest):
    def test_great_lengths(self):
        one = [("m", None, later(after("x", HUGE), after("y", 0)))]
        self.parts(one, [("m", None, later(after("x", HUGE - 1), after("y", 0)))], "m", 2)
        self.parts(one, [("m", None, after("x", HUGE))], "m", 1)
        self.alike(one, [("m", None, later(after("y", 0), after("x", HUGE)))])

    def test_a_hundred_series_of_forty_clauses(self):
        names = [one + other for one, other in itertools.product("abcdefghij", repeat=2)]
        groups = ["abcde", "fghijklm"]
        terms = [chain(earlier, [after(kind, 3) for kind in group]) for group in groups]
        wide, turned = later(terms[0], terms[1]), later(terms[1], terms[0])
        one = [(name, None, wide) for name in names]
        other = [(name, None, turned) for name in names]
        self.alike(one, other)
        longer = chain(earlier, [after(kind, 4 if kind == "m" else 3) for kind in groups[1]])
        self.parts(one, other[:-1] + [(names[-1], None, later(terms[0], longer))], "jj", 2)

    def test_a_line_of_a_hundred(self):
        names = [one + other for one, other in itertools.product("abcdefghij", repeat=2)]
        one = [(names[0], None, after("x", 3))] + [(name, elder, None) for elder, name in zip(names, names[1:])]
        other = [(names[0], None, after("x", 4))] + one[1:50] + [(names[50], names[49], after("x", 3))] + one[51:]
        self.alike(one, [(name, None, after("x", 3)) for name in reversed(names)])
        self.parts(one, other, "aa", 1)
        self.parts(one, [(names[-1], None, never())] + one[:-1], "jj", 1)


if __name__ == "__main__":
    unittest.main()
