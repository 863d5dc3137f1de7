"""Promises 28 and 29, and promise 2 as far as it speaks of the days foretold."""

import copy
import itertools
import random
import unittest

from disposehall.books import book_read
from disposehall.foretold import first_due, foretold
from disposehall.house import House
from disposehall.judging import judged
from disposehall.terms import after, earlier, later, never

HUGE = 10 ** 50 - 1
FAR = 75
BOOK = book_read("""series all after closed 10d
series mail under all
series bills under all later after paid 7d after put 3d
series foreign under bills
series loose never
series quick after put 0d""")


def first_day_by_day(book, rows, record, day):
    """What first_due is to tell, by judging on one day after the other."""
    for one in range(day, FAR):
        if judged(book, rows, record, one)[0] == "due":
            return one
    return None


class FirstDueTest(unittest.TestCase):
    def told(self, rows, record, answers, book=BOOK):
        """The answers are the same in whatever order the rows stand."""
        orders = itertools.permutations(rows) if len(rows) <= 4 else [rows, rows[::-1]]
        for order in orders:
            for day, answer in answers:
                with self.subTest(rows=order, day=day):
                    found = first_due(book, list(order), record, day)
                    self.assertEqual(found, answer)
                    self.assertIs(type(found), type(answer))
                    if day < FAR and (answer is None or answer < FAR):
                        self.assertEqual(first_day_by_day(book, list(order), record, day), answer)

    def test_at_once(self):
        rows = [("put", "r", "quick", 5)]
        self.told(rows, "r", [(5, 5), (6, 6), (40, 40), (HUGE, HUGE)])
        self.told([("put", "r", "mail", 5), ("deed", "r", "closed", 0)], "r", [(10, 10), (11, 11), (60, 60)])
        self.told([("put", "r", "quick", 0)], "r", [(0, 0), (1, 1)])

    def test_later(self):
        rows = [("put", "r", "mail", 5), ("deed", "r", "closed", 6)]
        self.told(rows, "r", [(6, 16), (10, 16), (15, 16), (16, 16), (17, 17)])

    def test_by_a_put_of_a_later_day(self):
        rows = [("put", "r", "quick", 5)]
        self.told(rows, "r", [(0, 5), (4, 5)])
        rows = [("put", "r", "mail", 20), ("deed", "r", "closed", 2)]
        self.told(rows, "r", [(0, 20), (12, 20), (19, 20), (20, 20), (21, 21)])
        rows = [("put", "r", "bills", 8), ("deed", "r", "paid", 2)]
        self.told(rows, "r", [(0, 11), (9, 11), (12, 12)])

    def test_by_a_deed_of_a_later_day(self):
        rows = [("put", "r", "mail", 0), ("deed", "r", "closed", 20)]
        self.told(rows, "r", [(0, 30), (20, 30), (29, 30), (31, 31)])

    def test_by_a_move_of_a_later_day(self):
        rows = [("put", "r", "loose", 0), ("move", "r", "quick", 20)]
        self.told(rows, "r", [(0, 20), (19, 20), (20, 20), (21, 21)])
        rows = [("put", "r", "loose", 0), ("move", "r", "mail", 20), ("deed", "r", "closed", 15)]
        self.told(rows, "r", [(0, 25), (26, 26)])

    def test_only_between_two_rows(self):
        rows = [("put", "r", "loose", 0), ("move", "r", "quick", 20), ("move", "r", "loose", 23)]
        self.told(rows, "r", [(0, 20), (20, 20), (21, 21), (22, 22), (23, None), (30, None)])
        rows = [("put", "r", "mail", 0), ("deed", "r", "closed", 5), ("hold", "h", "record", "r", 17)]
        self.told(rows, "r", [(0, 15), (15, 15), (16, 16), (17, None), (18, None)])
        rows = [("put", "r", "quick", 4), ("move", "r", "loose", 5)]
        self.told(rows, "r", [(0, 4), (4, 4), (5, None)])

    def test_no_day_between_two_rows(self):
        rows = [("put", "r", "mail", 0), ("deed", "r", "closed", 5), ("move", "r", "loose", 15)]
        self.told(rows, "r", [(0, None), (15, None)])
        rows = [("put", "r", "mail", 0), ("deed", "r", "closed", 5), ("move", "r", "loose", 16)]
        self.told(rows, "r", [(0, 15), (15, 15), (16, None)])
        rows = [("put", "r", "mail", 0), ("deed", "r", "closed", 5), ("hold", "h", "record", "r", 15)]
        self.told(rows, "r", [(0, None), (15, None)])

    def test_behind_the_lift_of_a_hold(self):
        rows = [("put", "r", "quick", 0), ("hold", "h", "record", "r", 0), ("lift", "h", 9)]
        self.told(rows, "r", [(0, 9), (8, 9), (9, 9), (10, 10)])
        rows = [("put", "r", "foreign", 0), ("deed", "r", "paid", 0), ("hold", "h", "series", "all", 3), ("lift", "h", 9)]
        self.told(rows, "r", [(0, 9), (7, 9), (9, 9)])
        rows = [("put", "r", "foreign", 0), ("deed", "r", "paid", 0), ("hold", "h", "series", "all", 8), ("lift", "h", 12)]
        self.told(rows, "r", [(0, 7), (7, 7), (8, 12), (11, 12), (12, 12)])
        rows = [("put", "r", "foreign", 0), ("deed", "r", "paid", 0), ("hold", "h", "series", "bills", 0), ("lift", "h", 5)]
        self.told(rows, "r", [(0, 7), (8, 8)])

    def test_holds_one_behind_the_other(self):
        rows = [("put", "r", "quick", 0)]
        for hold, laid, lifted in [("h", 0, 4), ("g", 4, 9), ("f", 2, 6), ("e", 10, 11), ("d", 8, 9), ("c", 9, 9), ("b", 5, 3)]:
            rows += [("hold", hold, "record", "r", laid), ("lift", hold, lifted)]
        self.told(rows, "r", [(0, 9), (4, 9), (8, 9), (9, 9), (10, 11), (11, 11)])
        for order in itertools.permutations(range(4)):
            chosen = [rows[0]]
            for place in order:
                chosen += rows[1 + 2 * place:3 + 2 * place]
            self.told(chosen, "r", [(0, 9), (9, 9), (10, 11)])

    def test_holds_that_begin_on_one_day(self):
        for ends in itertools.permutations([3, 7, 5]):
            rows = [("put", "r", "quick", 0)]
            for hold, end in zip("hgf", ends):
                rows += [("hold", hold, "record", "r", 1), ("lift", hold, end)]
            self.told(rows, "r", [(0, 0), (1, 7), (4, 7), (7, 7)])

    def test_several_lifts_of_one_hold(self):
        for lifts in itertools.permutations([9, 6, 20]):
            rows = [("put", "r", "quick", 0), ("hold", "h", "record", "r", 0)] + [("lift", "h", day) for day in lifts]
            self.told(rows, "r", [(0, 6), (6, 6), (7, 7)])

    def test_a_lift_ahead_of_its_hold(self):
        rows = [("put", "r", "quick", 0), ("hold", "h", "record", "r", 5), ("lift", "h", 3)]
        self.told(rows, "r", [(0, 0), (4, 4), (5, 5), (6, 6)])
        rows = [("put", "r", "quick", 0), ("hold", "h", "record", "r", 5), ("lift", "h", 5)]
        self.told(rows, "r", [(0, 0), (4, 4), (5, 5), (6, 6)])

    def test_holds_that_are_never_lifted(self):
        rows = [("put", "r", "quick", 3), ("hold", "h", "record", "r", 0)]
        self.told(rows, "r", [(0, None), (3, None), (HUGE, None)])
        rows = [("put", "r", "quick", 3), ("hold", "h", "record", "r", 5), ("lift", "g", 6)]
        self.told(rows, "r", [(0, 3), (4, 4), (5, None), (6, None)])
        rows = [("put", "r", "quick", 3), ("hold", "h", "record", "r", 5), ("hold", "g", "series", "quick", 9), ("lift", "h", 7)]
        self.told(rows, "r", [(0, 3), (5, 7), (8, 8), (9, None)])

    def test_holds_that_are_laid_on_something_else(self):
        for row in [("hold", "h", "record", "s", 0), ("hold", "h", "record", "mail", 0), ("hold", "r", "record", "all", 0),
                    ("hold", "h", "series", "bills", 0), ("hold", "h", "series", "loose", 0)]:
            self.told([("put", "r", "mail", 0), ("deed", "r", "closed", 0), row], "r", [(0, 10), (11, 11)])

    def test_a_move_out_of_a_held_series_and_into_one(self):
        rows = [("put", "r", "quick", 0), ("hold", "h", "series", "quick", 0), ("move", "r", "mail", 9),
                ("deed", "r", "closed", 2)]
        self.told(rows, "r", [(0, 12), (9, 12)])
        rows = [("put", "r", "quick", 5), ("hold", "h", "series", "all", 0), ("move", "r", "mail", 9),
                ("deed", "r", "closed", 2), ("lift", "h", 30)]
        self.told(rows, "r", [(0, 5), (8, 8), (9, 30), (12, 30), (31, 31)])

    def test_a_row_of_a_later_day_moves_the_due_day_on(self):
        rows = [("put", "r", "mail", 0), ("deed", "r", "closed", 5), ("deed", "r", "closed", 12)]
        self.told(rows, "r", [(0, 22), (5, 22), (12, 22), (23, 23)])
        rows = [("put", "r", "mail", 0), ("deed", "r", "closed", 5), ("deed", "r", "closed", 15)]
        self.told(rows, "r", [(0, 25), (14, 25)])
        rows = [("put", "r", "mail", 0), ("deed", "r", "closed", 5), ("deed", "r", "closed", 16)]
        self.told(rows, "r", [(0, 15), (15, 15), (16, 26), (27, 27)])

    def test_a_row_of_a_later_day_moves_the_due_day_back(self):
        rows = [("put", "r", "mail", 0), ("deed", "r", "closed", 5), ("move", "r", "quick", 8)]
        self.told(rows, "r", [(0, 8), (7, 8), (9, 9)])
        book = [("m", None, earlier(after("a", 20), after("b", 3)))]
        self.told([("put", "r", "m", 0), ("deed", "r", "a", 0), ("deed", "r", "b", 4)], "r", [(0, 7), (8, 8)], book)
        self.told([("put", "r", "m", 0), ("deed", "r", "a", 0), ("deed", "r", "b", 18)], "r", [(0, 20), (21, 21)], book)

    def test_several_rows_on_one_day(self):
        rows = [("put", "r", "loose", 5), ("move", "r", "quick", 5), ("deed", "r", "closed", 5)]
        self.told(rows, "r", [(0, 5), (6, 6)])
        rows = [("put", "r", "loose", 0), ("move", "r", "quick", 9), ("move", "r", "mail", 9), ("deed", "r", "closed", 0)]
        self.told(rows, "r", [(0, 9), (10, 10)])

    def test_names_that_are_not_put(self):
        self.told([], "r", [(0, None), (HUGE, None)])
        rows = [("move", "r", "quick", 0), ("deed", "r", "put", 0), ("hold", "r", "record", "r", 0), ("put", "s", "quick", 1)]
        for name in ["r", "quick", "put", "ss", "nobody"]:
            self.told(rows, name, [(0, None), (9, None)])
        self.told(rows, "s", [(0, 1)])

    def test_never(self):
        self.told([("put", "r", "loose", 0)], "r", [(0, None), (HUGE, None)])
        self.told([("put", "r", "mail", 0), ("deed", "r", "paid", 0)], "r", [(0, None), (50, None)])

    def test_days_far_off(self):
        book = [("m", None, after("put", HUGE)), ("n", None, after("x", 3))]
        self.told([("put", "r", "m", HUGE)], "r", [(0, 2 * HUGE), (HUGE, 2 * HUGE)], book)
        self.told([("put", "r", "m", 0)], "r", [(0, HUGE), (HUGE, HUGE), (HUGE + 1, HUGE + 1)], book)
        rows = [("put", "r", "m", 0), ("hold", "h", "series", "m", 5), ("lift", "h", HUGE + 7)]
        self.told(rows, "r", [(0, HUGE + 7), (HUGE + 9, HUGE + 9)], book)
        rows = [("put", "r", "n", 0), ("deed", "r", "x", 1), ("deed", "r", "x", HUGE)]
        self.told(rows, "r", [(0, 4), (HUGE - 1, HUGE - 1), (HUGE, HUGE + 3)], book)

    def test_rows_of_chance_day_by_day(self):
        chance = random.Random(28)
        seen = set()
        for attempt in range(300):
            book, rows = some_book(chance), some_rows(chance, chance.randrange(4, 30))
            for record in ["r", "s", "t", "w"]:
                for day in [0, chance.randrange(35), 60]:
                    found = first_due(book, rows, record, day)
                    self.assertEqual(found, first_day_by_day(book, rows, record, day))
                    seen.add("never" if found is None else "at once" if found == day else "later")
        self.assertEqual(seen, {"never", "at once", "later"})


def some_term(chance, depth=2):
    sort = chance.randrange(6) if depth > 0 else 5
    if sort == 0:
        return never()
    if sort in (1, 2):
        return [later, earlier][sort - 1](some_term(chance, depth - 1), some_term(chance, depth - 1))
    return after(chance.choice(["put", "a", "b"]), chance.randrange(15))


def some_book(chance):
    book = []
    for name in ["x", "y", "z", "v"]:
        elder = chance.choice([None] + [series[0] for series in book])
        book.append((name, elder, some_term(chance) if elder is None or chance.random() < 0.5 else None))
    return book


def some_rows(chance, many):
    """Rows such as a house takes: no record is put twice, no hold laid twice."""
    rows = []
    for place in range(many):
        day = chance.randrange(35)
        sort = chance.choice(["put", "move", "deed", "hold", "hold", "lift", "lift"])
        record, hold, series = chance.choice("rstu"), chance.choice("hgfer"), chance.choice("xyzv")
        if sort in ("put", "move"):
            row = (sort, record, series, day)
        elif sort == "deed":
            row = (sort, record, chance.choice(["put", "a", "b"]), day)
        elif sort == "lift":
            row = (sort, hold, day)
        else:
            row = (sort, hold) + chance.choice([("record", record), ("series", series)]) + (day,)
        if sort not in ("put", "hold") or row[:2] not in [one[:2] for one in rows]:
            rows.append(row)
    return rows


class ForetoldTest(unittest.TestCase):
    def test_without_records(self):
        self.assertEqual(foretold(BOOK, [], 0), [])
        self.assertEqual(foretold([], [], HUGE), [])
        rows = [("move", "r", "quick", 0), ("deed", "r", "put", 0), ("hold", "h", "record", "r", 0), ("lift", "h", 1)]
        self.assertEqual(foretold(BOOK, rows, 0), [])

    def test_sorted_by_days_then_records(self):
        rows = [("put", "b", "quick", 7), ("put", "c", "quick", 3), ("put", "a", "quick", 7), ("put", "ab", "quick", 10),
                ("put", "z", "loose", 0), ("put", "d", "mail", 0), ("deed", "d", "closed", 0), ("put", "e", "quick", 0)]
        answer = [(0, "e"), (3, "c"), (7, "a"), (7, "b"), (10, "ab"), (10, "d")]
        for order in [rows, rows[::-1], sorted(rows), sorted(rows, key=lambda row: row[1:])]:
            found = foretold(BOOK, order, 0)
            self.assertEqual(found, answer)
            self.assertIs(type(found), list)
            for told in found:
                self.assertIs(type(told), tuple)
                self.assertEqual([type(value) for value in told], [int, str])
        self.assertEqual(foretold(BOOK, rows, 7), [(7, "a"), (7, "b"), (7, "c"), (7, "e"), (10, "ab"), (10, "d")])
        self.assertEqual(foretold(BOOK, rows, 10), [(10, name) for name in ["a", "ab", "b", "c", "d", "e"]])
        self.assertEqual(foretold(BOOK, rows, 99), [(99, name) for name in ["a", "ab", "b", "c", "d", "e"]])

    def test_days_are_sorted_as_numbers(self):
        rows = [("put", "a", "quick", 100), ("put", "b", "quick", 20), ("put", "c", "quick", 3), ("put", "d", "quick", HUGE)]
        self.assertEqual(foretold(BOOK, rows, 0), [(3, "c"), (20, "b"), (100, "a"), (HUGE, "d")])

    def test_each_as_first_due_tells(self):
        chance = random.Random(29)
        for attempt in range(150):
            book, rows, day = some_book(chance), some_rows(chance, 20), chance.randrange(40)
            names = {row[1] for row in rows if row[0] == "put"}
            found = [(first_day_by_day(book, rows, name, day), name) for name in names]
            self.assertEqual(foretold(book, rows, day), sorted(told for told in found if told[0] is not None))

    def test_runs_on_the_days_foretold(self):
        """Runs on every day take each record on its day; also runs on the days foretold alone, and a run on one of them."""
        chance = random.Random(30)
        for attempt in range(80):
            book, rows, day = some_book(chance), some_rows(chance, 20), chance.randrange(30)
            answer = foretold(book, rows, day)
            every = range(day, FAR)
            for days in [list(every), sorted({told[0] for told in answer}), sorted(chance.sample(every, 4))]:
                house = House(book)
                for row in rows:
                    house.tell(row)
                gone = {}
                for one in days:
                    for told in house.run(one):
                        gone[told[0]] = one
                for first, record in answer:
                    if first in days:
                        self.assertLessEqual(gone[record], first)
                for record, one in gone.items():
                    self.assertGreaterEqual(one, {name: first for first, name in answer}[record])
                self.assertEqual(house.regrets(), [])

    def test_runs_on_every_day_take_just_what_is_foretold(self):
        chance = random.Random(31)
        for attempt in range(80):
            book, rows, day = some_book(chance), some_rows(chance, 20), chance.randrange(30)
            house = House(book)
            for row in rows:
                house.tell(row)
            taken = [(one, told[0]) for one in range(day, FAR) for told in house.run(one)]
            self.assertEqual(taken, foretold(book, rows, day))


class OwnTest(unittest.TestCase):
    def test_nothing_is_changed_or_kept(self):
        rows = [("put", "r", "quick", 4), ("hold", "h", "record", "r", 2), ("lift", "h", 9), ("put", "s", "quick", 1)]
        book = list(BOOK)
        handed = copy.copy(rows)
        self.assertEqual(foretold(book, handed, 0), [(1, "s"), (9, "r")])
        self.assertEqual(first_due(book, handed, "r", 0), 9)
        self.assertEqual((book, handed), (BOOK, rows))
        handed.pop()
        handed.pop()
        self.assertEqual(foretold(book, handed, 0), [])
        del book[:]
        book.append(("quick", None, never()))
        self.assertEqual(foretold(book, rows, 0), [])
        self.assertEqual(first_due(book, rows, "s", 0), None)

    def test_the_list_is_the_askers_own(self):
        rows = [("put", "r", "quick", 4), ("put", "s", "quick", 1)]
        told = foretold(BOOK, rows, 0)
        again = foretold(BOOK, rows, 0)
        told.clear()
        self.assertEqual(again, [(1, "s"), (4, "r")])
        self.assertEqual(foretold(BOOK, rows, 0), again)


class SizeTest(unittest.TestCase):
    def test_a_thousand_rows_and_a_hundred_series(self):
        names = [one + other for one, other in itertools.product("abcdefghij", repeat=2)]
        book = [(names[0], None, after("put", 1))]
        book += [(name, elder, None) for elder, name in zip(names, names[1:])]
        records = [first + name for first in "xyz" for name in names]
        rows = [("put", record, names[place % 100], place) for place, record in enumerate(records)]
        for place in range(350):
            hold = "h" + names[place // 100] + names[place % 100]
            rows += [("hold", hold, "series", names[0], 3 * place), ("lift", hold, 3 * place + 3)]
        self.assertEqual(len(rows), 1000)
        self.assertEqual(foretold(book, rows, 0), [(1050, record) for record in sorted(records)])
        self.assertEqual(foretold(book, rows, 2000), [(2000, record) for record in sorted(records)])
        self.assertEqual(foretold(book, rows[:-1], 0), [])

    def test_a_thousand_rows_of_one_record(self):
        book = [("m", None, later(after("a", 5), after("b", 5)))]
        rows = [("put", "r", "m", 0)] + [("deed", "r", "ab"[place % 2], 3 * place) for place in range(999)]
        self.assertEqual(first_due(book, rows, "r", 0), 3 * 998 + 5)
        self.assertEqual(foretold(book, rows, 0), [(3 * 998 + 5, "r")])


if __name__ == "__main__":
    unittest.main()
