"""Promises 17 to 20, and promise 2 as far as it speaks of judging."""

import copy
import itertools
import random
import unittest

from disposehall.books import book_read, book_shown
from disposehall.judging import judged, reason
from disposehall.terms import after, earlier, later, never

HUGE = 10 ** 50 - 1
ABSENT = ("absent", None, None, None, [])
BOOK = book_read("""series all after closed 10d
series mail under all
series bills under all later after paid 7d after put 3d
series foreign under bills
series loose never
series quick after put 0d""")


def judged_day_by_day(book, rows, record, day):
    """What judged is to tell, by going through the rows in the order of their days."""
    series, put, life, held, lifted = None, False, {}, [], set()
    elders = {name: elder for name, elder, term in book}
    terms = {name: term for name, elder, term in book}
    for row in sorted(rows, key=lambda row: (row[-1], row[2] if row[0] in ("put", "move") else "")):
        if row[-1] > day:
            break
        if row[0] == "lift":
            lifted.add(row[1])
        elif row[0] == "hold":
            held.append(row)
        elif row[1] == record and row[0] == "deed":
            life[row[2]] = row[3]
        elif row[1] == record:
            series = row[2]
            if row[0] == "put":
                put = True
                life["put"] = row[3]
    if not put:
        return ABSENT, None
    line = []
    name = series
    while name is not None:
        line.append(name)
        name = elders[name]
    owner = next(name for name in line if terms[name] is not None)
    due = terms[owner].due(life)
    wanted = {("record", record)} | {("series", name) for name in line}
    holds = sorted(row[1] for row in held if (row[2], row[3]) in wanted and row[1] not in lifted)
    word = "kept" if due is None or due > day else "held" if holds else "due"
    leaves = sorted(terms[owner].leaves())
    causes = [(kind, life[kind], length) for kind, length in leaves if life.get(kind, HUGE * 9) + length == due]
    return (word, series, owner, due, holds), causes[0] if due is not None else None


class JudgedTest(unittest.TestCase):
    def told(self, rows, record, day, answer, book=BOOK):
        """The answer is the same in whatever order the rows stand."""
        orders = itertools.permutations(rows) if len(rows) <= 5 else [rows, rows[::-1]]
        for order in orders:
            with self.subTest(rows=order, record=record, day=day):
                found = judged(book, list(order), record, day)
                self.assertEqual(found, answer)
                self.assertEqual([type(value) for value in found], [type(value) for value in answer])

    def test_absent(self):
        self.told([], "r", 0, ABSENT)
        self.told([], "r", HUGE, ABSENT)
        self.told([("put", "s", "all", 0)], "r", 9, ABSENT)
        self.told([("move", "r", "all", 0)], "r", 9, ABSENT)
        self.told([("deed", "r", "put", 0), ("deed", "r", "closed", 0)], "r", 99, ABSENT)
        self.told([("hold", "h", "record", "r", 0)], "r", 9, ABSENT)
        self.told([("hold", "r", "record", "r", 0), ("lift", "r", 2)], "r", 9, ABSENT)
        self.told([("put", "rr", "r", 0), ("put", "s", "all", 3)], "all", 9, ABSENT)

    def test_absent_until_its_put(self):
        rows = [("put", "r", "all", 5), ("move", "r", "mail", 1), ("deed", "r", "closed", 0),
                ("hold", "h", "record", "r", 2)]
        self.told(rows, "r", 4, ABSENT)
        self.told(rows, "r", 0, ABSENT)
        self.told(rows, "r", 5, ("kept", "all", "all", 10, ["h"]))

    def test_kept(self):
        rows = [("put", "r", "mail", 5)]
        self.told(rows, "r", 5, ("kept", "mail", "all", None, []))
        self.told(rows, "r", HUGE, ("kept", "mail", "all", None, []))
        rows = [("put", "r", "mail", 5), ("deed", "r", "closed", 20)]
        self.told(rows, "r", 19, ("kept", "mail", "all", None, []))
        self.told(rows, "r", 20, ("kept", "mail", "all", 30, []))
        self.told(rows, "r", 29, ("kept", "mail", "all", 30, []))
        self.told([("put", "r", "loose", 5), ("deed", "r", "closed", 0)], "r", HUGE,
                  ("kept", "loose", "loose", None, []))

    def test_due_from_the_due_day_on(self):
        rows = [("put", "r", "mail", 5), ("deed", "r", "closed", 20)]
        for day in [30, 31, 500, HUGE]:
            self.told(rows, "r", day, ("due", "mail", "all", 30, []))
        self.told([("put", "r", "quick", 0)], "r", 0, ("due", "quick", "quick", 0, []))
        self.told([("put", "r", "quick", HUGE)], "r", HUGE, ("due", "quick", "quick", HUGE, []))
        self.told([("put", "r", "quick", HUGE)], "r", HUGE - 1, ABSENT)

    def test_held(self):
        rows = [("put", "r", "mail", 5), ("deed", "r", "closed", 20), ("hold", "h", "record", "r", 40)]
        self.told(rows, "r", 29, ("kept", "mail", "all", 30, []))
        self.told(rows, "r", 39, ("due", "mail", "all", 30, []))
        self.told(rows, "r", 40, ("held", "mail", "all", 30, ["h"]))
        self.told(rows, "r", 900, ("held", "mail", "all", 30, ["h"]))
        self.told(rows, "s", 900, ABSENT)

    def test_kept_and_under_a_hold(self):
        rows = [("put", "r", "mail", 5), ("hold", "h", "record", "r", 3), ("hold", "g", "series", "all", 9)]
        self.told(rows, "r", 8, ("kept", "mail", "all", None, ["h"]))
        self.told(rows, "r", 9, ("kept", "mail", "all", None, ["g", "h"]))
        rows.append(("deed", "r", "closed", 6))
        self.told(rows, "r", 15, ("kept", "mail", "all", 16, ["g", "h"]))
        self.told(rows, "r", 16, ("held", "mail", "all", 16, ["g", "h"]))

    def test_moves(self):
        rows = [("put", "r", "mail", 5), ("move", "r", "bills", 8), ("move", "r", "quick", 12)]
        self.told(rows, "r", 7, ("kept", "mail", "all", None, []))
        self.told(rows, "r", 8, ("kept", "bills", "bills", None, []))
        self.told(rows, "r", 11, ("kept", "bills", "bills", None, []))
        self.told(rows, "r", 12, ("due", "quick", "quick", 5, []))

    def test_moves_ahead_of_the_put(self):
        rows = [("put", "r", "mail", 5), ("move", "r", "quick", 4)]
        self.told(rows, "r", 4, ABSENT)
        self.told(rows, "r", 5, ("kept", "mail", "all", None, []))
        rows = [("put", "r", "all", 5), ("move", "r", "quick", 2), ("move", "r", "loose", 9)]
        self.told(rows, "r", 8, ("kept", "all", "all", None, []))
        self.told(rows, "r", 9, ("kept", "loose", "loose", None, []))

    def test_moves_of_the_day_of_the_put(self):
        self.told([("put", "r", "mail", 5), ("move", "r", "all", 5)], "r", 5, ("kept", "mail", "all", None, []))
        self.told([("put", "r", "mail", 5), ("move", "r", "quick", 5)], "r", 5, ("due", "quick", "quick", 5, []))
        self.told([("put", "r", "mail", 5), ("move", "r", "mail", 5)], "r", 5, ("kept", "mail", "all", None, []))

    def test_moves_on_one_day_to_several_series(self):
        rows = [("put", "r", "quick", 5), ("move", "r", "mail", 8), ("move", "r", "all", 8), ("move", "r", "foreign", 8)]
        self.told(rows, "r", 7, ("due", "quick", "quick", 5, []))
        self.told(rows, "r", 8, ("kept", "mail", "all", None, []))
        self.told(rows, "r", 9, ("kept", "mail", "all", None, []))
        book = [("ab", None, never()), ("b", None, never()), ("abc", None, never()), ("aa", None, never())]
        for names in itertools.permutations(["ab", "b", "abc", "aa"], 3):
            rows = [("put", "r", "aa", 0)] + [("move", "r", name, 8) for name in names]
            self.told(rows, "r", 8, ("kept", max(names), max(names), None, []), book)

    def test_moves_of_other_records(self):
        rows = [("put", "r", "mail", 5), ("put", "s", "quick", 5), ("move", "s", "loose", 8)]
        self.told(rows, "r", 9, ("kept", "mail", "all", None, []))
        self.told(rows, "s", 9, ("kept", "loose", "loose", None, []))
        self.told(rows, "s", 7, ("due", "quick", "quick", 5, []))

    def test_the_latest_deed_of_a_kind(self):
        rows = [("put", "r", "all", 5), ("deed", "r", "closed", 6), ("deed", "r", "closed", 9),
                ("deed", "r", "closed", 8), ("deed", "s", "closed", 40)]
        self.told(rows, "r", 6, ("kept", "all", "all", 16, []))
        self.told(rows, "r", 8, ("kept", "all", "all", 18, []))
        self.told(rows, "r", 99, ("due", "all", "all", 19, []))

    def test_a_later_deed_puts_the_due_day_off(self):
        rows = [("put", "r", "all", 5), ("deed", "r", "closed", 6), ("deed", "r", "closed", 20)]
        self.told(rows, "r", 19, ("due", "all", "all", 16, []))
        self.told(rows, "r", 20, ("kept", "all", "all", 30, []))
        self.told(rows, "r", 30, ("due", "all", "all", 30, []))

    def test_deeds_ahead_of_the_put(self):
        rows = [("put", "r", "all", 50), ("deed", "r", "closed", 6)]
        self.told(rows, "r", 49, ABSENT)
        self.told(rows, "r", 50, ("due", "all", "all", 16, []))

    def test_deeds_of_other_kinds(self):
        rows = [("put", "r", "all", 5), ("deed", "r", "paid", 6), ("deed", "r", "close", 6), ("deed", "closed", "r", 6)]
        self.told(rows, "r", 99, ("kept", "all", "all", None, []))

    def test_the_put_as_a_deed(self):
        self.told([("put", "r", "quick", 5)], "r", 9, ("due", "quick", "quick", 5, []))
        rows = [("put", "r", "bills", 5), ("deed", "r", "paid", 0)]
        self.told(rows, "r", 7, ("kept", "bills", "bills", 8, []))
        self.told(rows, "r", 8, ("due", "bills", "bills", 8, []))

    def test_deeds_of_the_kind_put(self):
        rows = [("put", "r", "quick", 5), ("deed", "r", "put", 3)]
        self.told(rows, "r", 9, ("due", "quick", "quick", 5, []))
        rows = [("put", "r", "quick", 5), ("deed", "r", "put", 8)]
        self.told(rows, "r", 7, ("due", "quick", "quick", 5, []))
        self.told(rows, "r", 8, ("due", "quick", "quick", 8, []))
        rows = [("put", "r", "quick", 5), ("deed", "r", "put", 5), ("deed", "r", "put", 4), ("deed", "s", "put", 7)]
        self.told(rows, "r", 9, ("due", "quick", "quick", 5, []))

    def test_a_move_is_no_deed(self):
        rows = [("put", "r", "all", 5), ("move", "r", "quick", 9)]
        self.told(rows, "r", 9, ("due", "quick", "quick", 5, []))
        self.told([("put", "r", "a", 5), ("move", "r", "a", 9), ("hold", "a", "series", "a", 3), ("lift", "a", 4)],
                  "r", 9, ("kept", "a", "a", None, []), [("a", None, after("a", 0))])
        book = [("a", None, earlier(after("move", 0), later(after("hold", 0), after("deed", 0))))]
        rows = [("put", "r", "a", 5), ("move", "r", "a", 9), ("hold", "r", "record", "r", 3), ("deed", "r", "x", 3)]
        self.told(rows, "r", 9, ("kept", "a", "a", None, ["r"]), book)

    def test_holds_on_series_of_the_line(self):
        put = ("put", "r", "foreign", 0)
        for name in ["foreign", "bills", "all"]:
            rows = [put, ("deed", "r", "paid", 0), ("hold", "h", "series", name, 9)]
            self.told(rows, "r", 8, ("due", "foreign", "bills", 7, []))
            self.told(rows, "r", 9, ("held", "foreign", "bills", 7, ["h"]))
        for name in ["mail", "loose", "quick"]:
            rows = [put, ("deed", "r", "paid", 0), ("hold", "h", "series", name, 9)]
            self.told(rows, "r", 9, ("due", "foreign", "bills", 7, []))

    def test_a_hold_on_a_series_under_it_does_not_hold(self):
        rows = [("put", "r", "all", 0), ("deed", "r", "closed", 0), ("hold", "h", "series", "mail", 0)]
        self.told(rows, "r", 10, ("due", "all", "all", 10, []))

    def test_holds_go_by_the_series_of_the_day(self):
        rows = [("put", "r", "quick", 0), ("move", "r", "mail", 5), ("deed", "r", "closed", 0),
                ("hold", "h", "series", "quick", 0), ("hold", "g", "series", "all", 0)]
        self.told(rows, "r", 4, ("held", "quick", "quick", 0, ["h"]))
        self.told(rows, "r", 5, ("kept", "mail", "all", 10, ["g"]))
        self.told(rows, "r", 10, ("held", "mail", "all", 10, ["g"]))

    def test_records_and_series_of_one_name(self):
        rows = [("put", "quick", "mail", 0), ("deed", "quick", "closed", 0), ("put", "mail", "quick", 0)]
        self.told(rows + [("hold", "h", "record", "mail", 0)], "quick", 10, ("due", "mail", "all", 10, []))
        self.told(rows + [("hold", "h", "record", "mail", 0)], "mail", 10, ("held", "quick", "quick", 0, ["h"]))
        self.told(rows + [("hold", "h", "series", "mail", 0)], "quick", 10, ("held", "mail", "all", 10, ["h"]))
        self.told(rows + [("hold", "h", "series", "mail", 0)], "mail", 10, ("due", "quick", "quick", 0, []))
        rows = [("put", "all", "all", 0), ("deed", "all", "closed", 0), ("hold", "all", "series", "all", 0)]
        self.told(rows, "all", 10, ("held", "all", "all", 10, ["all"]))

    def test_lifts(self):
        rows = [("put", "r", "quick", 0), ("hold", "h", "record", "r", 3), ("lift", "h", 6)]
        self.told(rows, "r", 2, ("due", "quick", "quick", 0, []))
        self.told(rows, "r", 3, ("held", "quick", "quick", 0, ["h"]))
        self.told(rows, "r", 5, ("held", "quick", "quick", 0, ["h"]))
        self.told(rows, "r", 6, ("due", "quick", "quick", 0, []))
        self.told(rows, "r", 99, ("due", "quick", "quick", 0, []))

    def test_lifts_ahead_of_their_hold(self):
        rows = [("put", "r", "quick", 0), ("hold", "h", "record", "r", 3), ("lift", "h", 1)]
        for day in [0, 2, 3, 99]:
            self.told(rows, "r", day, ("due", "quick", "quick", 0, []))
        rows = [("put", "r", "quick", 0), ("hold", "h", "record", "r", 3), ("lift", "h", 3)]
        self.told(rows, "r", 3, ("due", "quick", "quick", 0, []))

    def test_lifts_of_other_holds(self):
        rows = [("put", "r", "quick", 0), ("hold", "h", "record", "r", 3), ("lift", "r", 4), ("lift", "g", 4)]
        self.told(rows, "r", 5, ("held", "quick", "quick", 0, ["h"]))
        rows = [("put", "r", "quick", 0), ("hold", "h", "record", "r", 3), ("lift", "h", 9), ("lift", "h", 4)]
        self.told(rows, "r", 3, ("held", "quick", "quick", 0, ["h"]))
        self.told(rows, "r", 4, ("due", "quick", "quick", 0, []))

    def test_several_holds_sorted(self):
        rows = [("put", "r", "mail", 0), ("deed", "r", "closed", 0), ("hold", "c", "record", "r", 3),
                ("hold", "a", "series", "all", 4), ("hold", "ab", "series", "mail", 1), ("hold", "b", "record", "s", 1),
                ("hold", "aa", "record", "r", 2), ("lift", "ab", 20)]
        self.told(rows, "r", 10, ("held", "mail", "all", 10, ["a", "aa", "ab", "c"]))
        self.told(rows, "r", 20, ("held", "mail", "all", 10, ["a", "aa", "c"]))
        self.told(rows, "r", 3, ("kept", "mail", "all", 10, ["aa", "ab", "c"]))

    def test_rows_of_later_days_do_not_count(self):
        rows = [("put", "r", "mail", 5), ("deed", "r", "closed", 6)]
        later_rows = [("move", "r", "loose", 21), ("deed", "r", "closed", 21), ("hold", "h", "record", "r", 21)]
        self.told(rows + later_rows, "r", 20, ("due", "mail", "all", 16, []))
        self.told(rows + later_rows, "r", 21, ("kept", "loose", "loose", None, ["h"]))

    def test_names_like_words(self):
        rows = [("put", "put", "all", 0), ("deed", "put", "closed", 0), ("hold", "put", "record", "put", 0),
                ("hold", "record", "series", "all", 0), ("lift", "put", 12)]
        self.told(rows, "put", 11, ("held", "all", "all", 10, ["put", "record"]))
        self.told(rows, "put", 12, ("held", "all", "all", 10, ["record"]))

    def test_great_days(self):
        book = [("a", None, after("x", HUGE))]
        rows = [("put", "r", "a", HUGE), ("deed", "r", "x", HUGE)]
        self.told(rows, "r", HUGE, ("kept", "a", "a", 2 * HUGE, []), book)
        self.assertEqual(reason(book, rows, "r", HUGE), ("x", HUGE, HUGE))


class ReasonTest(unittest.TestCase):
    def told(self, term, rows, day, answer):
        book = [("top", None, never()), ("a", "top", term), ("b", "a", None)]
        for order in itertools.permutations(rows):
            with self.subTest(term=term.shown(), rows=order, day=day):
                found = reason(book, list(order), "r", day)
                self.assertEqual(found, answer)
                if answer is not None:
                    self.assertIs(type(found), tuple)
                    self.assertEqual(found[1] + found[2], judged(book, list(order), "r", day)[3])

    def test_none_if_absent(self):
        self.told(after("x", 1), [], 9, None)
        self.told(after("x", 1), [("deed", "r", "x", 3), ("move", "r", "a", 3)], 9, None)
        self.told(after("x", 1), [("deed", "r", "x", 3), ("put", "r", "a", 10)], 9, None)
        self.told(after("put", 1), [("put", "s", "a", 1)], 9, None)

    def test_none_without_a_due_day(self):
        self.told(after("x", 1), [("put", "r", "a", 0)], 9, None)
        self.told(never(), [("put", "r", "a", 0), ("deed", "r", "x", 0)], 9, None)
        self.told(later(after("x", 1), after("y", 1)), [("put", "r", "a", 0), ("deed", "r", "x", 3)], 9, None)
        self.told(after("x", 1), [("put", "r", "a", 0), ("deed", "r", "x", 10)], 9, None)

    def test_of_a_day_that_is_still_to_come_too(self):
        rows = [("put", "r", "a", 0), ("deed", "r", "x", 3)]
        self.told(after("x", 100), rows, 9, ("x", 3, 100))
        self.told(after("x", 100), rows, 103, ("x", 3, 100))
        self.told(after("x", 100), rows + [("hold", "h", "record", "r", 0)], 103, ("x", 3, 100))

    def test_which_after(self):
        rows = [("put", "r", "b", 1), ("deed", "r", "x", 3), ("deed", "r", "y", 5)]
        self.told(later(after("x", 9), after("y", 1)), rows, 9, ("x", 3, 9))
        self.told(later(after("x", 1), after("y", 9)), rows, 9, ("y", 5, 9))
        self.told(earlier(after("x", 9), after("y", 1)), rows, 9, ("y", 5, 1))
        self.told(earlier(after("z", 0), after("y", 1)), rows, 9, ("y", 5, 1))
        self.told(earlier(after("x", 9), later(after("y", 2), after("put", 0))), rows, 9, ("y", 5, 2))
        self.told(later(after("x", 4), after("x", 7)), rows, 9, ("x", 3, 7))
        self.told(earlier(after("x", 4), after("x", 7)), rows, 9, ("x", 3, 4))

    def test_the_first_of_several_by_kind(self):
        rows = [("put", "r", "a", 1), ("deed", "r", "x", 3), ("deed", "r", "xa", 0), ("deed", "r", "y", 5)]
        for sort in [later, earlier]:
            self.told(sort(after("x", 4), after("y", 2)), rows, 9, ("x", 3, 4))
            self.told(sort(after("y", 2), after("x", 4)), rows, 9, ("x", 3, 4))
            self.told(sort(after("xa", 7), after("x", 4)), rows, 9, ("x", 3, 4))
            self.told(sort(after("y", 2), after("put", 6)), rows, 9, ("put", 1, 6))
            self.told(sort(after("x", 4), after("put", 6)), rows, 9, ("put", 1, 6))
            self.told(sort(sort(after("y", 2), after("xa", 7)), sort(after("x", 4), after("y", 2))), rows, 9,
                      ("x", 3, 4))

    def test_every_after_of_the_term_can_be_it(self):
        """Also one beside those that the term's day hangs on, if its day comes to the same."""
        rows = [("put", "r", "a", 1), ("deed", "r", "x", 3), ("deed", "r", "y", 5)]
        self.told(earlier(after("y", 2), later(after("x", 4), after("put", 30))), rows, 9, ("x", 3, 4))
        self.told(earlier(after("y", 2), later(after("x", 4), after("none", 0))), rows, 9, ("x", 3, 4))

    def test_the_put(self):
        self.told(after("put", 4), [("put", "r", "a", 3)], 9, ("put", 3, 4))
        self.told(after("put", 4), [("put", "r", "a", 3), ("deed", "r", "put", 1)], 9, ("put", 3, 4))
        self.told(after("put", 4), [("put", "r", "a", 3), ("deed", "r", "put", 6)], 9, ("put", 6, 4))
        self.told(after("put", 4), [("put", "r", "a", 3), ("deed", "r", "put", 6)], 5, ("put", 3, 4))

    def test_day_nought(self):
        self.told(after("put", 0), [("put", "r", "a", 0)], 0, ("put", 0, 0))
        self.told(later(after("put", 0), after("a", 0)), [("put", "r", "a", 0), ("deed", "r", "a", 0)], 0, ("a", 0, 0))

    def test_by_the_series_of_the_day(self):
        book = [("a", None, after("x", 1)), ("b", None, after("x", 2)), ("c", "b", None)]
        rows = [("put", "r", "a", 0), ("move", "r", "c", 5), ("deed", "r", "x", 2), ("deed", "r", "x", 7)]
        for order in itertools.permutations(rows):
            self.assertEqual(reason(book, list(order), "r", 4), ("x", 2, 1))
            self.assertEqual(reason(book, list(order), "r", 5), ("x", 2, 2))
            self.assertEqual(reason(book, list(order), "r", 7), ("x", 7, 2))
            self.assertIsNone(reason(book, list(order), "r", 1))


def some_rows(source, many, names, most):
    """Rows such as a house takes: each record is put once at most, each hold laid once at most."""
    records, kinds, holds = ["r", "s", "mail", "put"], ["put", "closed", "paid", "x"], ["h", "g", "r", "put", "k"]
    rows, puts, laid = [], [], []
    while len(rows) < many:
        day = source.randint(0, most)
        record, hold, word = source.choice(records), source.choice(holds), source.choice(["put", "move", "deed", "hold",
                                                                                          "lift"])
        if word == "put" and record not in puts:
            puts.append(record)
            rows.append(("put", record, source.choice(names), day))
        elif word == "move":
            rows.append(("move", record, source.choice(names), day))
        elif word == "deed":
            rows.append(("deed", record, source.choice(kinds), day))
        elif word == "hold" and hold not in laid:
            laid.append(hold)
            sort = source.choice(["record", "series"])
            rows.append(("hold", hold, sort, source.choice(records if sort == "record" else names), day))
        elif word == "lift" and source.random() < 0.4:
            rows.append(("lift", hold, day))
    return rows


class ManyRowsTest(unittest.TestCase):
    def test_against_going_day_by_day(self):
        source = random.Random(18)
        names = [series[0] for series in BOOK]
        seen = {}
        for _ in range(1500):
            rows = some_rows(source, source.randint(0, 25), names, 14)
            day = source.randint(0, 30)
            for record in ["r", "s", "mail", "put"]:
                answer, cause = judged_day_by_day(BOOK, rows, record, day)
                with self.subTest(rows=rows, record=record, day=day):
                    self.assertEqual(judged(BOOK, rows, record, day), answer)
                    self.assertEqual(reason(BOOK, rows, record, day), cause)
                    source.shuffle(rows)
                    self.assertEqual(judged(BOOK, rows, record, day), answer)
                    self.assertEqual(reason(BOOK, rows, record, day), cause)
                seen[answer[0]] = seen.get(answer[0], 0) + 1
        self.assertEqual(sorted(seen), ["absent", "due", "held", "kept"])
        self.assertGreater(min(seen.values()), 100)

    def test_a_thousand_rows(self):
        rows = [("put", "r", "mail", 500), ("hold", "a", "series", "all", 3)]
        rows += [("deed", "r", "closed", day) for day in range(400)]
        rows += [("move", "r", ["mail", "all"][day % 2], day) for day in range(300)]
        rows += [("lift", "b", day) for day in range(298)]
        self.assertEqual(len(rows), 1000)
        self.assertEqual(judged(BOOK, rows, "r", 499), ABSENT)
        self.assertEqual(judged(BOOK, rows, "r", 500), ("held", "mail", "all", 409, ["a"]))
        self.assertEqual(reason(BOOK, rows, "r", 500), ("closed", 399, 10))

    def test_a_long_line(self):
        names = [chr(97 + n // 26) + chr(97 + n % 26) for n in range(100)]
        book = [(names[0], None, after("put", 1))] + [(name, elder, None) for elder, name in zip(names, names[1:])]
        rows = [("put", "r", names[-1], 0)] + [("hold", "h" + name, "series", name, 0) for name in names]
        holds = ["h" + name for name in names]
        self.assertEqual(judged(book, rows, "r", 1), ("held", names[-1], names[0], 1, holds))


class OwnTest(unittest.TestCase):
    ROWS = [("hold", "h", "series", "all", 3), ("put", "r", "mail", 5), ("deed", "r", "closed", 6), ("lift", "g", 1),
            ("move", "r", "all", 7), ("hold", "b", "record", "r", 3)]

    def test_what_is_handed_in_stays_as_it_was(self):
        book = list(BOOK)
        rows = copy.deepcopy(self.ROWS)
        for day in [0, 6, 30]:
            judged(book, rows, "r", day)
            reason(book, rows, "r", day)
        self.assertEqual(rows, self.ROWS)
        self.assertEqual(book_shown(book), book_shown(BOOK))
        self.assertTrue(all(one is other for one, other in zip(book, BOOK)))

    def test_what_is_told_is_the_askers_own(self):
        before = ("held", "all", "all", 16, ["b", "h"])
        kept = judged(BOOK, self.ROWS, "r", 30)
        told = judged(BOOK, self.ROWS, "r", 30)
        self.assertEqual(told, before)
        told[4].append("z")
        self.assertEqual(judged(BOOK, self.ROWS, "r", 30), before)
        self.assertEqual(kept, before)
        told[4].clear()
        self.assertEqual(judged(BOOK, self.ROWS, "r", 30), before)
        judged(BOOK, [], "r", 30)[4].append("z")
        self.assertEqual(judged(BOOK, [], "r", 30), ABSENT)
        judged(BOOK, self.ROWS[1:2], "r", 30)[4].append("z")
        self.assertEqual(judged(BOOK, self.ROWS[1:2], "r", 30), ("kept", "mail", "all", None, []))

    def test_rows_and_books_are_not_kept(self):
        rows = list(self.ROWS)
        book = list(BOOK)
        judged(book, rows, "r", 30)
        reason(book, rows, "r", 30)
        rows[0] = ("lift", "b", 2)
        self.assertEqual(judged(book, rows, "r", 30), ("due", "all", "all", 16, []))
        rows.clear()
        self.assertEqual(judged(book, rows, "r", 30), ABSENT)
        self.assertIsNone(reason(book, rows, "r", 30))
        book[0] = ("all", None, after("closed", 1))
        self.assertEqual(judged(book, self.ROWS, "r", 30), ("held", "all", "all", 7, ["b", "h"]))
        self.assertEqual(reason(book, self.ROWS, "r", 30), ("closed", 6, 1))


if __name__ == "__main__":
    unittest.main()
