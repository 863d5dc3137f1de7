"""Promises 8, 9 and 10, and promise 2 as far as it speaks of terms."""

import itertools
import re
import unittest

from disposehall.errors import NoTerm
from disposehall.terms import Term, after, earlier, later, never, term_read

SIGNS = [chr(code) for code in range(ord(" "), ord("~") + 1) if chr(code) != "%"] + ["\n"]
NAME = re.compile("[a-z]{1,12}")
LENGTH = re.compile("(0|[1-9][0-9]{0,39})([ymd])")
UNITS = {"y": 360, "m": 30, "d": 1}


def length_word(word):
    """A length as it is to be shown, or None if the word is none."""
    found = LENGTH.fullmatch(word)
    if found is None:
        return None
    days = int(found.group(1)) * UNITS[found.group(2)]
    for letter, unit in UNITS.items():
        if days % unit == 0:
            return str(days // unit) + letter


def shown_as(text):
    """How a text is to be shown once read, or None if it is no term: told by
    counting how many terms are still missing, not by reading parts."""
    words = text.split(" ")
    if len(words) > 61:
        return None
    missing = 1
    at = 0
    while at < len(words) and missing > 0:
        if words[at] in ("later", "earlier"):
            missing += 1
            at += 1
        elif words[at] == "never":
            missing -= 1
            at += 1
        elif words[at] == "after" and at + 2 < len(words) and NAME.fullmatch(words[at + 1]):
            words[at + 2] = length_word(words[at + 2])
            if words[at + 2] is None:
                return None
            missing -= 1
            at += 3
        else:
            return None
    if missing > 0 or at < len(words):
        return None
    return " ".join(words)


def chain(sort, terms):
    whole = terms[0]
    for term in terms[1:]:
        whole = sort(whole, term)
    return whole


class DueTest(unittest.TestCase):
    def test_all_are_terms(self):
        for term in [never(), after("closed", 3), later(never(), never()), earlier(never(), never()),
                     term_read("never"), term_read("later never after closed 3d")]:
            self.assertIsInstance(term, Term)

    def test_never(self):
        for life in [{}, {"closed": 0}, {"never": 5, "put": 10 ** 50}]:
            self.assertIsNone(never().due(life))

    def test_after(self):
        for day, days in [(0, 0), (0, 7), (7, 0), (100, 360), (10 ** 50 - 1, 10 ** 50 - 1)]:
            self.assertEqual(after("closed", days).due({"closed": day}), day + days)
        self.assertEqual(after("never", 3).due({"never": 4}), 7)

    def test_after_without_its_kind(self):
        for life in [{}, {"opened": 5}, {"close": 5, "closeda": 6}]:
            self.assertIsNone(after("closed", 3).due(life))

    def test_later_and_earlier_of_two_days(self):
        one = after("closed", 3)
        other = after("opened", 10)
        for closed in range(0, 20):
            for opened in range(0, 20):
                life = {"closed": closed, "opened": opened}
                days = [closed + 3, opened + 10]
                self.assertEqual(later(one, other).due(life), max(days))
                self.assertEqual(later(other, one).due(life), max(days))
                self.assertEqual(earlier(one, other).due(life), min(days))
                self.assertEqual(earlier(other, one).due(life), min(days))

    def test_none_on_either_side(self):
        day = after("closed", 3)
        for none in [never(), after("opened", 0)]:
            for due in [0, 5]:
                self.assertIsNone(later(day, none).due({"closed": due}))
                self.assertIsNone(later(none, day).due({"closed": due}))
                self.assertEqual(earlier(day, none).due({"closed": due}), due + 3)
                self.assertEqual(earlier(none, day).due({"closed": due}), due + 3)

    def test_day_nought_is_a_day(self):
        nought = after("closed", 0)
        seven = after("opened", 7)
        life = {"closed": 0, "opened": 0}
        self.assertEqual(nought.due(life), 0)
        self.assertEqual(later(nought, seven).due(life), 7)
        self.assertEqual(later(seven, nought).due(life), 7)
        self.assertEqual(later(nought, nought).due(life), 0)
        self.assertEqual(earlier(nought, seven).due(life), 0)
        self.assertEqual(earlier(seven, nought).due(life), 0)
        self.assertEqual(earlier(nought, never()).due(life), 0)
        self.assertEqual(earlier(never(), nought).due(life), 0)

    def test_none_on_both_sides(self):
        for one in [never(), after("opened", 0)]:
            for other in [never(), after("shut", 0)]:
                self.assertIsNone(later(one, other).due({"closed": 5}))
                self.assertIsNone(earlier(one, other).due({"closed": 5}))

    def test_whole_terms(self):
        term = later(earlier(after("closed", 10), after("lost", 0)), after("put", 30))
        self.assertEqual(term.due({"closed": 50, "put": 0}), 60)
        self.assertEqual(term.due({"closed": 50, "lost": 55, "put": 0}), 55)
        self.assertEqual(term.due({"lost": 5, "put": 0}), 30)
        self.assertIsNone(term.due({"put": 0}))
        self.assertIsNone(term.due({"closed": 50, "lost": 55}))

    def test_kinds_that_the_term_does_not_have(self):
        terms = [never(), after("a", 3), later(after("a", 3), after("b", 1)), earlier(after("a", 3), after("b", 9))]
        for term in terms:
            for life in [{}, {"a": 4}, {"b": 4}, {"a": 4, "b": 6}]:
                for day in [0, 5, 10 ** 50 - 1]:
                    self.assertEqual(term.due({**life, "c": day, "later": day}), term.due(life))
                    self.assertEqual(term.due({"c": day, **life}), term.due(life))

    def test_the_life_stays_as_it_was_and_is_not_kept(self):
        term = later(after("a", 3), earlier(after("b", 1), never()))
        life = {"b": 9, "c": 2, "a": 4}
        self.assertEqual(term.due(life), 10)
        self.assertEqual(list(life.items()), [("b", 9), ("c", 2), ("a", 4)])
        life["b"] = 20
        self.assertEqual(term.due(life), 21)
        life.clear()
        self.assertIsNone(term.due(life))
        self.assertEqual(life, {})

    def test_a_term_in_several_terms(self):
        part = after("a", 3)
        one = later(part, after("b", 1))
        other = earlier(part, part)
        self.assertEqual(one.due({"a": 1, "b": 9}), 10)
        self.assertEqual(other.due({"a": 1, "b": 9}), 4)
        self.assertEqual(part.due({"a": 1}), 4)


class LeavesTest(unittest.TestCase):
    def test_each_sort(self):
        self.assertEqual(never().leaves(), [])
        self.assertEqual(after("a", 3).leaves(), [("a", 3)])
        for sort in [later, earlier]:
            self.assertEqual(sort(after("b", 3), after("a", 1)).leaves(), [("b", 3), ("a", 1)])
            self.assertEqual(sort(never(), after("a", 1)).leaves(), [("a", 1)])
            self.assertEqual(sort(after("a", 1), never()).leaves(), [("a", 1)])
            self.assertEqual(sort(never(), never()).leaves(), [])

    def test_from_the_left_to_the_right_each_as_often_as_it_stands(self):
        term = later(earlier(after("d", 4), later(after("a", 1), after("d", 4))), earlier(never(), after("c", 0)))
        self.assertEqual(term.leaves(), [("d", 4), ("a", 1), ("d", 4), ("c", 0)])
        other = earlier(after("c", 0), later(later(after("b", 9), after("a", 1)), after("b", 2)))
        self.assertEqual(other.leaves(), [("c", 0), ("b", 9), ("a", 1), ("b", 2)])

    def test_kinds_of_the_list(self):
        told = later(after("b", 3), after("a", 1)).leaves()
        self.assertIs(type(told), list)
        self.assertEqual([type(leaf) for leaf in told], [tuple, tuple])

    def test_the_list_is_the_askers_own(self):
        part = after("b", 3)
        terms = [never(), part, later(part, never()), earlier(part, after("a", 1)), later(never(), never())]
        for term in terms:
            before = term.leaves()
            shown = term.shown()
            told = term.leaves()
            kept = term.leaves()
            told.append(("c", 5))
            told[0] = ("d", 6)
            self.assertEqual(term.leaves(), before)
            self.assertEqual(kept, before)
            self.assertEqual(term.shown(), shown)
            told.clear()
            self.assertEqual(term.leaves(), before)
        self.assertEqual(part.leaves(), [("b", 3)])
        self.assertEqual(part.due({"b": 1, "d": 100}), 4)
        self.assertEqual(never().leaves(), [])


class WordsTest(unittest.TestCase):
    def no_term(self, text):
        with self.subTest(text=text):
            with self.assertRaises(ValueError) as caught:
                term_read(text)
            self.assertIs(type(caught.exception), NoTerm)

    def both_ways(self, term, text):
        with self.subTest(text=text):
            self.assertEqual(term.shown(), text)
            read = term_read(text)
            self.assertEqual(read.shown(), text)
            self.assertEqual(read.leaves(), term.leaves())

    def read_or_refused(self, text):
        shown = shown_as(text)
        if shown is None:
            self.no_term(text)
        else:
            with self.subTest(text=text):
                self.assertEqual(term_read(text).shown(), shown)

    def test_each_sort(self):
        self.both_ways(never(), "never")
        self.both_ways(after("closed", 720), "after closed 2y")
        self.both_ways(after("closed", 60), "after closed 2m")
        self.both_ways(after("closed", 61), "after closed 61d")
        self.both_ways(after("closed", 0), "after closed 0y")
        self.both_ways(later(after("b", 1), after("a", 2)), "later after b 1d after a 2d")
        self.both_ways(earlier(after("b", 1), after("a", 2)), "earlier after b 1d after a 2d")
        self.both_ways(later(never(), after("a", 30)), "later never after a 1m")
        self.both_ways(earlier(after("a", 30), never()), "earlier after a 1m never")

    def test_terms_within_terms(self):
        self.both_ways(
            later(earlier(after("d", 4), later(never(), after("d", 5))), earlier(never(), after("c", 0))),
            "later earlier after d 4d later never after d 5d earlier never after c 0y",
        )
        self.both_ways(
            earlier(after("c", 360), later(later(after("b", 9), after("a", 1)), after("b", 2))),
            "earlier after c 1y later later after b 9d after a 1d after b 2d",
        )

    def test_what_is_read_tells_the_same(self):
        text = "later earlier after a 10d after b 0d after c 1m"
        term = later(earlier(after("a", 10), after("b", 0)), after("c", 30))
        days = [None, 0, 15, 29, 45]
        for picked in itertools.product(days, repeat=3):
            life = {kind: day for kind, day in zip("abc", picked) if day is not None}
            self.assertEqual(term_read(text).due(life), term.due(life))

    def test_the_words_tell_the_sorts(self):
        life = {"a": 4, "b": 6}
        self.assertIsNone(term_read("never").due(life))
        self.assertEqual(term_read("after a 2m").due(life), 64)
        self.assertEqual(term_read("later after a 0y after b 0y").due(life), 6)
        self.assertEqual(term_read("earlier after a 0y after b 0y").due(life), 4)
        self.assertIsNone(term_read("later never after b 0y").due(life))
        self.assertEqual(term_read("earlier never after b 0y").due(life), 6)

    def test_lengths_written_otherwise(self):
        for text, shown in [
            ("after a 0d", "after a 0y"), ("after a 0m", "after a 0y"), ("after a 12m", "after a 1y"),
            ("after a 360d", "after a 1y"), ("after a 30d", "after a 1m"), ("after a 13m", "after a 13m"),
            ("later after a 720d after b 390d", "later after a 2y after b 13m"),
        ]:
            self.assertEqual(term_read(text).shown(), shown)

    def test_long_lengths(self):
        number = "7" * 40
        self.both_ways(after("a", int(number) * 360), f"after a {number}y")
        self.no_term(f"after a {number}7y")
        self.assertEqual(after("a", 10 ** 50 - 1).shown(), "after a " + "9" * 50 + "d")

    def test_kinds_named_like_words(self):
        for kind in ["later", "earlier", "after", "never", "y", "put"]:
            self.both_ways(after(kind, 1), f"after {kind} 1d")
            self.both_ways(later(after(kind, 1), never()), f"later after {kind} 1d never")
            self.both_ways(earlier(never(), after(kind, 1)), f"earlier never after {kind} 1d")
        self.assertEqual(term_read("after later 1d").due({"later": 4}), 5)
        self.assertEqual(term_read("later after after 1d after never 1d").leaves(), [("after", 1), ("never", 1)])

    def test_sixty_one_words(self):
        for sort in [later, earlier]:
            self.both_ways_of_61(chain(sort, [never()] * 31))
            self.both_ways_of_61(chain(sort, [after("abcdefghijkl", 7)] * 15 + [never()]))
            self.both_ways_of_61(chain(lambda one, other: sort(other, one), [never()] + [after("a", 7)] * 15))

    def both_ways_of_61(self, term):
        self.assertEqual(len(term.shown().split(" ")), 61)
        self.both_ways(term, term.shown())

    def test_more_than_sixty_one_words(self):
        for sort in ["later", "earlier"]:
            self.no_term(" ".join([sort] * 31 + ["never"] * 32))
            self.no_term(" ".join([sort, "never"] * 31 + ["never"]))
            self.no_term(" ".join([sort] * 15 + ["after a 7d"] * 16))
            self.no_term(" ".join([sort] * 4000 + ["never"] * 4001))
            self.no_term(" ".join([sort] * 12000))
        self.no_term(" ".join(["never"] * 62))

    def test_terms_made_by_functions_are_not_refused_for_their_words(self):
        term = chain(later, [after("a", 7)] * 16)
        self.assertEqual(len(term.shown().split(" ")), 63)
        self.assertEqual(term.due({"a": 1}), 8)
        self.assertEqual(term.leaves(), [("a", 7)] * 16)

    def test_words_too_few(self):
        for text in ["after", "after a", "later", "later never", "later later never never", "earlier after a 1d",
                     "earlier", "later after a 1d after b", "later after", " ".join(["later"] * 61)]:
            self.no_term(text)

    def test_words_too_many(self):
        for text in ["never never", "never after a 1d", "after a 1d 1d", "after a b 1d", "after a 1d never",
                     "later never never never", "earlier never never later", "later never never later never never"]:
            self.no_term(text)

    def test_other_words(self):
        for text in ["ever", "Never", "NEVER", "nevers", "before a 1d", "a 1d", "1d", "a", "afters a 1d",
                     "latest never never", "later never maybe", "earlier maybe never", "under never", "-", "~"]:
            self.no_term(text)

    def test_kinds_that_are_no_names(self):
        for kind in ["A", "a1", "1", "1d", "abcdefghijklm", "a-b", "a_b", "Closed", "\n", "a\n", "\na", "~"]:
            self.no_term(f"after {kind} 1d")
            self.no_term(f"later never after {kind} 1d")

    def test_lengths_that_are_none(self):
        for length in ["1", "d", "01d", "1w", "1D", "1dd", "-1d", "+1d", "1_0d", "d1", "never", "1d\n", "\n1d", "1\nd"]:
            self.no_term(f"after a {length}")
            self.no_term(f"later after a {length} never")

    def test_blanks(self):
        for text in ["never", "after a 1d", "later never after a 1d", "earlier after later 1m never"]:
            self.no_term(" " + text)
            self.no_term(text + " ")
            self.no_term(" " + text + " ")
            for at, sign in enumerate(text):
                if sign == " ":
                    self.no_term(text[:at] + " " + text[at:])
                    self.no_term(text[:at] + text[at + 1:])
                    self.no_term(text[:at] + "\n" + text[at + 1:])
        for text in [" ", "  ", "after  1d", "after a ", "later never "]:
            self.no_term(text)

    def test_line_feeds_at_every_place(self):
        for text in ["never", "after a 1d", "later never after a 1d"]:
            for at in range(len(text) + 1):
                self.no_term(text[:at] + "\n" + text[at:])

    def test_a_text_without_signs(self):
        self.no_term("")

    def test_long_texts(self):
        for text in [" " * 100000, "a" * 100000, "after " + "a" * 99990 + " 1d", "after a " + "1" * 99990 + "d"]:
            with self.assertRaises(NoTerm):
                term_read(text)

    def test_one_sign_off(self):
        for text in ["never", "after a 1d", "later never after never 12m", "earlier after ab 0d never"]:
            for at in range(len(text) + 1):
                for sign in SIGNS:
                    self.read_or_refused(text[:at] + sign + text[at:])
                    self.read_or_refused(text[:at] + sign + text[at + 1:])
                self.read_or_refused(text[:at] + text[at + 1:])

    def test_every_row_of_few_words(self):
        words = ["never", "after", "later", "earlier", "1d", "a", ""]
        for many in range(1, 6):
            for picked in itertools.product(words, repeat=many):
                self.read_or_refused(" ".join(picked))


if __name__ == "__main__":
    unittest.main()
