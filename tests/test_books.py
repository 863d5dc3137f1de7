"""Promises 15 and 16, and promise 2 as far as it speaks of books."""

import random
import re
import unittest

from disposehall.books import book_read, book_shown, line_of, owner_of, term_of
from disposehall.clauses import least
from disposehall.errors import NoBook, NoTerm, TooWide
from disposehall.terms import Term, after, earlier, later, never, term_read

ROW = re.compile("series ([a-z]{1,12})(?: under ([a-z]{1,12}))?(?: ((?:never|after|later|earlier)(?: [^\n]*)?))?")
SIGNS = [chr(code) for code in range(ord(" "), ord("~") + 1) if chr(code) != "%"] + ["\n"]

GOOD = """series all after closed 10y
series mail under all
series bills under all later after paid 7y after closed 1m
series foreign under bills
series loose never
series letters under mail earlier after read 2m never"""


def chain(sort, words):
    return " ".join([sort] * (len(words) - 1) + words)


def choice(kinds):
    return chain("earlier", [f"after {kind} 1d" for kind in kinds])


FORTY = "later " + choice("abcde") + " " + choice("fghijklm")
WIDE = "later " + choice("abcdef") + " " + choice("ghijklm")


def row_that_cannot_stand(text):
    """The number of the first bad row, or None: told by a pattern of rows."""
    ahead = []
    for number, row in enumerate(text.split("\n") if text else [], start=1):
        found = ROW.fullmatch(row)
        if found is None:
            return number
        name, elder, term = found.groups()
        if name in ahead or (elder is None and term is None) or (elder is not None and elder not in ahead):
            return number
        if term is not None:
            try:
                least(term_read(term))
            except (NoTerm, TooWide):
                return number
        ahead.append(name)
    return None


class ReadTest(unittest.TestCase):
    def read(self, text, *series):
        """The book is as told: terms by their words."""
        with self.subTest(text=text):
            book = book_read(text)
            self.assertIs(type(book), list)
            for one in book:
                self.assertIs(type(one), tuple)
                self.assertTrue(one[2] is None or isinstance(one[2], Term))
            self.assertEqual(
                [(name, elder, None if term is None else term.shown()) for name, elder, term in book], list(series),
            )

    def refused(self, text, row):
        with self.subTest(text=text[:500]):
            with self.assertRaises(ValueError) as caught:
                book_read(text)
            self.assertIs(type(caught.exception), NoBook)
            self.assertEqual(caught.exception.row, row)
            self.assertIs(type(caught.exception.row), int)

    def refused_at_every_place(self, bad):
        """The bad row at the first, a middle and the last place, with and without another one behind it."""
        good = ["series first never", "series next under first after read 1d", "series last under next"]
        for at in range(len(good) + 1):
            self.refused("\n".join(good[:at] + [bad] + good[at:]), at + 1)
            self.refused("\n".join(good[:at] + [bad, "x"] + good[at:]), at + 1)
            self.refused("\n".join(good[:at] + [bad, bad]), at + 1)
            self.refused("\n".join(good[:at] + [bad] + good[at:] + [""]), at + 1)
        # A text without signs is no bad row, but a book.
        if bad != "":
            self.refused(bad, 1)

    def test_a_text_without_signs(self):
        self.read("")

    def test_each_form_of_a_row(self):
        self.read("series a never", ("a", None, "never"))
        self.read("series a after closed 2y", ("a", None, "after closed 2y"))
        self.read("series a later never after b 1d", ("a", None, "later never after b 1d"))
        self.read("series a earlier after b 1d never", ("a", None, "earlier after b 1d never"))
        self.read("series a never\nseries b under a", ("a", None, "never"), ("b", "a", None))
        self.read("series a never\nseries b under a after c 1d", ("a", None, "never"), ("b", "a", "after c 1d"))

    def test_a_whole_book(self):
        self.read(
            GOOD,
            ("all", None, "after closed 10y"), ("mail", "all", None),
            ("bills", "all", "later after paid 7y after closed 1m"), ("foreign", "bills", None),
            ("loose", None, "never"), ("letters", "mail", "earlier after read 2m never"),
        )

    def test_lengths_written_otherwise(self):
        self.read("series a after b 360d\nseries c under a after b 0d",
                  ("a", None, "after b 1y"), ("c", "a", "after b 0y"))

    def test_the_terms_tell_days(self):
        book = book_read("series a after b 3d\nseries c under a later after b 1d after d 0y")
        self.assertEqual(book[0][2].due({"b": 4}), 7)
        self.assertEqual(book[1][2].due({"b": 4, "d": 9}), 9)
        self.assertIsNone(book[1][2].due({"b": 4}))

    def test_names_like_words(self):
        words = ["under", "series", "never", "after", "later", "earlier"]
        for name in words:
            self.read(f"series {name} never", (name, None, "never"))
            self.read(f"series {name} after {name} 1d", (name, None, f"after {name} 1d"))
            for elder in words:
                if elder != name:
                    start = f"series {elder} never\nseries {name} under {elder}"
                    self.read(start, (elder, None, "never"), (name, elder, None))
                    self.read(start + " never", (elder, None, "never"), (name, elder, "never"))
                    self.read(start + " after under 1d", (elder, None, "never"), (name, elder, "after under 1d"))
        self.refused("series under under under", 1)
        self.refused("series under under under never", 1)
        self.refused("series never", 1)
        self.refused("series after", 1)
        self.refused("series series", 1)
        self.refused("series under under", 1)
        self.refused("series a under never", 1)
        self.refused("series after b 1d", 1)
        self.refused("series under never never", 1)

    def test_longest_names(self):
        self.read("series abcdefghijkl never\nseries z under abcdefghijkl",
                  ("abcdefghijkl", None, "never"), ("z", "abcdefghijkl", None))
        self.refused("series abcdefghijklm never", 1)

    def test_rows_of_another_form(self):
        for bad in ["", " ", "series", "series ", "series a", "series a ", "Series a never", "serie a never", "a never",
                    "never", "series  a never", " series a never", "series a never ", "series a  never",
                    "series a under", "series a under ", "series a under first ", "series a under  first",
                    "series a  under first", "series a under first  never", "series a under first never ",
                    "series a Under first", "series a above first", "series a never under first",
                    "series a under first under next", "series a under first next", "series a first",
                    "series a under first never never", "series\na never", "seriesa never", "x"]:
            self.refused_at_every_place(bad)

    def test_names_that_are_none(self):
        for name in ["A", "a1", "1", "a-b", "aB", "abcdefghijklm", "a_b", "~", "-", ""]:
            self.refused_at_every_place(f"series {name} never")
            self.refused_at_every_place(f"series {name} under first")
            self.refused_at_every_place(f"series a under {name}")
            self.refused_at_every_place(f"series a under {name} never")

    def test_names_that_stand_ahead(self):
        for bad in ["series first never", "series first under first", "series first under first never",
                    "series first after closed 1d", "series first under next"]:
            for rows in [["series first never"], ["series first never", "series next under first"]]:
                for behind in [[], ["series more never"], ["x"], [bad]]:
                    self.refused("\n".join(rows + [bad] + behind), len(rows) + 1)
        self.refused("series a never\nseries b never\nseries c never\nseries b never", 4)

    def test_elders_that_do_not_stand_ahead(self):
        for bad in ["series a under other", "series a under a", "series a under a never", "series a under other never"]:
            self.refused_at_every_place(bad)
        self.refused("series a under b\nseries b never", 1)
        self.refused("series c never\nseries a under b\nseries b never", 2)
        self.refused("series c never\nseries b under c\nseries a under d\nseries d under a", 3)

    def test_terms_that_are_none(self):
        for term in ["ever", "Never", "after", "after b", "after b 1", "after b 01d", "after B 1d", "after b 1w",
                     "later never", "earlier after b 1d", "later never never never", "after b 1d never", "after  1d",
                     "after b " + "1" * 41 + "d", chain("later", ["never"] * 32), chain("earlier", ["never"] * 31) + " x",
                     chain("later", ["after b 1d"] * 16)]:
            self.refused_at_every_place(f"series a {term}")
            if term != "ever":
                self.refused_at_every_place(f"series a under first {term}")
        self.refused("series first never\nseries a under first ever", 2)

    def test_just_so_many_words(self):
        for term in [chain("later", ["never"] * 31), chain("earlier", ["after b 1d"] * 15 + ["never"])]:
            self.assertEqual(len(term.split(" ")), 61)
            self.read(f"series a {term}\nseries b under a {term}", ("a", None, term), ("b", "a", term))

    def test_terms_that_are_too_wide(self):
        for term in [WIDE, f"later never {WIDE}", f"earlier after z 0y later after z 1d {WIDE}",
                     f"earlier {FORTY} after z 1d"]:
            self.assertLessEqual(len(term.split(" ")), 61)
            self.refused_at_every_place(f"series a {term}")
            self.refused_at_every_place(f"series a under first {term}")
        self.read(f"series a {FORTY}\nseries b under a {FORTY}", ("a", None, FORTY), ("b", "a", FORTY))

    def test_line_feeds(self):
        self.refused("series a never\n", 2)
        self.refused("series a never\n\n", 2)
        self.refused("series a never\n\nseries b never", 2)
        self.refused("\nseries a never", 1)
        self.refused("\n", 1)
        self.refused("\n\n\n", 1)
        self.refused(GOOD + "\n", 7)

    def test_one_sign_off(self):
        for text in ["series a never\nseries b under a\nseries c under b after d 1m",
                     "series under never\nseries b under under never"]:
            self.assertIsNone(row_that_cannot_stand(text))
            for at in range(len(text) + 1):
                for sign in SIGNS:
                    self.read_or_refused(text[:at] + sign + text[at:])
                    self.read_or_refused(text[:at] + sign + text[at + 1:])
                self.read_or_refused(text[:at] + text[at + 1:])

    def test_rows_of_some_words(self):
        source = random.Random(15)
        words = ["series", "under", "never", "after", "a", "b", "1d", "later", ""]
        start = "series a never\nseries under under a\n"
        for _ in range(8000):
            row = " ".join(source.choice(words) for _ in range(source.randint(1, 6)))
            self.read_or_refused(start + ("series " if source.random() < 0.8 else "") + row)

    def read_or_refused(self, text):
        row = row_that_cannot_stand(text)
        if row is not None:
            self.refused(text, row)
        else:
            self.assertEqual(len(book_read(text)), len(text.split("\n")))

    def test_long_texts(self):
        self.refused("a" * 100000, 1)
        self.refused(" " * 100000, 1)
        self.refused("series a never\n" + "series " + "a" * 99000, 2)
        self.refused("series a never\nseries b under a " + "later " * 16000 + "never", 2)

    def test_the_list_is_the_askers_own(self):
        before = book_shown(book_read(GOOD))
        kept = book_read(GOOD)
        told = book_read(GOOD)
        told[0] = ("all", None, never())
        told.append(("more", None, never()))
        self.assertEqual(book_shown(book_read(GOOD)), before)
        self.assertEqual(book_shown(kept), before)
        empty = book_read("")
        empty.append(("more", None, never()))
        self.assertEqual(book_read(""), [])

    def test_after_a_refusal_all_is_as_it_was(self):
        self.refused("series a never\nseries b under c", 2)
        self.refused("series b under a", 1)
        self.read("series a never", ("a", None, "never"))


class ShownTest(unittest.TestCase):
    def test_a_book_without_series(self):
        self.assertEqual(book_shown([]), "")

    def test_each_form_of_a_row(self):
        self.assertEqual(book_shown([("a", None, never())]), "series a never")
        self.assertEqual(book_shown([("a", None, after("b", 720))]), "series a after b 2y")
        self.assertEqual(
            book_shown([("a", None, later(never(), after("b", 1))), ("under", "a", None),
                        ("c", "under", earlier(after("never", 60), never()))]),
            "series a later never after b 1d\nseries under under a\nseries c under under earlier after never 2m never",
        )

    def test_read_and_shown_again(self):
        for text in ["", GOOD, "series under never\nseries never under under\nseries series under never after after 1d",
                     f"series a {FORTY}\nseries b under a", "series a after b " + "9" * 40 + "y"]:
            self.assertEqual(book_shown(book_read(text)), text)

    def test_lengths_are_written_as_they_are_shown(self):
        self.assertEqual(book_shown(book_read("series a after b 24m\nseries c under a after b 90d")),
                         "series a after b 2y\nseries c under a after b 3m")

    def test_shown_and_read_again(self):
        source = random.Random(16)
        for _ in range(100):
            book = some_book(source, source.randint(0, 12))
            text = book_shown(book)
            read = book_read(text)
            self.assertEqual(book_shown(read), text)
            self.assertEqual([series[:2] for series in read], [series[:2] for series in book])

    def test_the_book_stays_as_it_was(self):
        book = book_read(GOOD)
        before = list(book)
        book_shown(book)
        self.assertEqual(len(book), len(before))
        self.assertTrue(all(one is other for one, other in zip(book, before)))


def some_book(source, many):
    names = source.sample(["a", "b", "under", "never", "after", "series", "mail", "all", "c", "d", "e", "put"], many)
    terms = [never(), after("put", 30), later(after("a", 1), after("b", 360)), earlier(after("a", 1), never())]
    book = []
    for name in names:
        elder = source.choice([None] + [series[0] for series in book])
        book.append((name, elder, source.choice(terms + ([None] * 6 if elder else []))))
    return book


def line_by_elders(book, name):
    """The line, name by name from each series to its elder."""
    elders = {series[0]: series[1] for series in book}
    line = [name]
    while elders[line[-1]] is not None:
        line.append(elders[line[-1]])
    return line


class LineTest(unittest.TestCase):
    def test_lines_owners_and_terms(self):
        book = book_read(GOOD)
        for name, line, owner in [
            ("all", ["all"], "all"), ("mail", ["mail", "all"], "all"), ("bills", ["bills", "all"], "bills"),
            ("foreign", ["foreign", "bills", "all"], "bills"), ("loose", ["loose"], "loose"),
            ("letters", ["letters", "mail", "all"], "letters"),
        ]:
            self.assertEqual(line_of(book, name), line)
            self.assertEqual(owner_of(book, name), owner)
            self.assertEqual(term_of(book, name).shown(), {one[0]: one[2] for one in book}[owner].shown())

    def test_the_term_of_the_nearest_elder(self):
        book = [("a", None, after("x", 1)), ("b", "a", after("x", 2)), ("c", "b", None), ("d", "c", None),
                ("e", "d", after("x", 5)), ("f", "e", None), ("g", "d", None), ("h", "a", None)]
        for name, owner, days in [("a", "a", 1), ("b", "b", 2), ("c", "b", 2), ("d", "b", 2), ("e", "e", 5),
                                  ("f", "e", 5), ("g", "b", 2), ("h", "a", 1)]:
            self.assertEqual(owner_of(book, name), owner)
            self.assertEqual(term_of(book, name).due({"x": 10}), 10 + days)
            self.assertIsInstance(term_of(book, name), Term)
        self.assertEqual(line_of(book, "f"), ["f", "e", "d", "c", "b", "a"])
        self.assertEqual(line_of(book, "g"), ["g", "d", "c", "b", "a"])

    def test_never_is_a_term(self):
        book = [("a", None, after("x", 1)), ("b", "a", never()), ("c", "b", None)]
        self.assertEqual(owner_of(book, "c"), "b")
        self.assertIsNone(term_of(book, "c").due({"x": 1}))

    def test_series_of_other_lines_between(self):
        book = [("a", None, after("x", 1)), ("b", None, after("x", 2)), ("c", "a", None), ("d", "b", None),
                ("e", "c", None), ("f", "d", after("x", 3)), ("g", "e", None)]
        self.assertEqual(line_of(book, "g"), ["g", "e", "c", "a"])
        self.assertEqual(owner_of(book, "g"), "a")
        self.assertEqual(line_of(book, "f"), ["f", "d", "b"])
        self.assertEqual(owner_of(book, "d"), "b")

    def test_many_books(self):
        source = random.Random(17)
        for _ in range(200):
            book = some_book(source, source.randint(1, 12))
            owning = {series[0]: series[2] for series in book}
            for name in owning:
                line = line_by_elders(book, name)
                owner = [one for one in line if owning[one] is not None][0]
                self.assertEqual(line_of(book, name), line)
                self.assertIs(type(line_of(book, name)), list)
                self.assertEqual(owner_of(book, name), owner)
                self.assertEqual(term_of(book, name).shown(), owning[owner].shown())

    def test_a_hundred_series(self):
        names = ["s" + chr(97 + n // 26) + chr(97 + n % 26) for n in range(100)]
        term = chain("later", [f"after abcdefghijkl {'8' * 40}d"] * 15)
        rows = [f"series {names[0]} {term}"]
        rows += [f"series {name} under {elder}" for elder, name in zip(names, names[1:])]
        book = book_read("\n".join(rows))
        self.assertEqual(line_of(book, names[-1]), names[::-1])
        self.assertEqual(owner_of(book, names[-1]), names[0])
        self.assertEqual(term_of(book, names[-1]).shown(), term)
        rows = [f"series {name} {term}" for name in names]
        self.assertLess(90000, len("\n".join(rows)))
        self.assertEqual(book_shown(book_read("\n".join(rows))), "\n".join(rows))
        self.assertEqual(len(book_read("\n".join([f"series {name} {FORTY}" for name in names]))), 100)

    def test_the_list_is_the_askers_own_and_the_book_stays_as_it_was(self):
        book = book_read(GOOD)
        before = list(book)
        told = line_of(book, "foreign")
        kept = line_of(book, "foreign")
        told.append("more")
        told[0] = "x"
        self.assertEqual(line_of(book, "foreign"), ["foreign", "bills", "all"])
        self.assertEqual(kept, ["foreign", "bills", "all"])
        owner_of(book, "foreign")
        term_of(book, "foreign")
        self.assertEqual(len(book), len(before))
        self.assertTrue(all(one is other for one, other in zip(book, before)))

    def test_the_book_is_not_kept(self):
        book = book_read(GOOD)
        self.assertEqual(owner_of(book, "foreign"), "bills")
        book[3] = ("foreign", "mail", None)
        self.assertEqual(line_of(book, "foreign"), ["foreign", "mail", "all"])
        self.assertEqual(owner_of(book, "foreign"), "all")
        book[3] = ("foreign", "mail", never())
        self.assertEqual(owner_of(book, "foreign"), "foreign")


if __name__ == "__main__":
    unittest.main()
