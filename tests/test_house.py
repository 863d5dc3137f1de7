"""Promises 21 to 24, and promise 2 as far as it speaks of the house."""

import copy
import itertools
import random
import unittest

from disposehall.books import book_read
from disposehall.errors import HallError, HeldTwice, NoSeries, PutTwice, RunBack
from disposehall.house import House
from disposehall.judging import judged, reason
from disposehall.terms import after, earlier, later, never

HUGE = 10 ** 50 - 1
BOOK = book_read("""series all after closed 10d
series mail under all
series bills under all later after paid 7d after put 3d
series foreign under bills
series loose never
series quick after put 0d""")


class PlainHouse:
    """What a house is to answer: everything is judged anew by all rows each time."""

    def __init__(self, book):
        self.book, self.told, self.taken, self.days = book, [], {}, []

    def tell(self, row):
        known = [one[0] for one in self.book]
        if row[0] == "put" and any(one[:2] == row[:2] for one in self.told):
            raise PutTwice()
        if row[0] == "hold" and any(one[:2] == row[:2] for one in self.told):
            raise HeldTwice()
        if row[0] in ("put", "move") and row[2] not in known:
            raise NoSeries()
        if row[0] == "hold" and row[2] == "series" and row[3] not in known:
            raise NoSeries()
        ahead = {one[0] for one in self.regrets()}
        self.told = self.told + [row]
        return sorted({one[0] for one in self.regrets()} - ahead)

    def run(self, day):
        if any(day < one for one in self.days):
            raise RunBack()
        self.days.append(day)
        answer = []
        for record in sorted({row[1] for row in self.told if row[0] == "put"} - set(self.taken)):
            word, series, owner, due, holds = judged(self.book, self.told, record, day)
            if word == "due":
                answer.append((record, series, owner, due, reason(self.book, self.told, record, day)))
        self.taken.update({told[0]: (len(self.days), day) for told in answer})
        return answer

    def regrets(self):
        words = {record: judged(self.book, self.told, record, day)[0] for record, (number, day) in self.taken.items()}
        return sorted((record, self.taken[record][0], word) for record, word in words.items() if word != "due")

    def rows(self):
        return self.told

    def gone(self):
        return self.taken


def house_of(rows, book=BOOK):
    house = House(book)
    for row in rows:
        house.tell(row)
    return house


class HouseTest(unittest.TestCase):
    def state_of(self, house):
        return (house.rows(), house.gone(), house.regrets())

    def refused(self, house, error, row):
        """Twice refused, and nothing is changed by it."""
        ahead = self.state_of(house)
        for again in range(2):
            with self.assertRaises(HallError) as caught:
                house.tell(row)
            self.assertIs(type(caught.exception), error)
            self.assertEqual(self.state_of(house), ahead)

    def run_refused(self, house, day):
        ahead = self.state_of(house)
        for again in range(2):
            with self.assertRaises(RunBack):
                house.run(day)
            self.assertEqual(self.state_of(house), ahead)


class TellTest(HouseTest):
    def test_a_new_house(self):
        house = House(BOOK)
        self.assertEqual(self.state_of(house), ([], {}, []))
        self.assertEqual(House([]).run(0), [])

    def test_every_sort_of_row_is_taken_and_kept_in_its_order(self):
        rows = [("put", "r", "mail", 9), ("move", "r", "all", 3), ("deed", "r", "closed", 5),
                ("hold", "h", "record", "r", 4), ("hold", "g", "series", "all", 2), ("lift", "h", 1), ("put", "a", "all", 0)]
        house = House(BOOK)
        for place, row in enumerate(rows):
            self.assertEqual(house.tell(row), [])
            self.assertEqual(house.rows(), rows[:place + 1])
        self.assertEqual(house.gone(), {})
        self.assertEqual([type(row) for row in house.rows()], [tuple] * len(rows))

    def test_rows_about_what_is_not_told_yet_are_taken(self):
        rows = [("move", "r", "quick", 5), ("deed", "s", "closed", 5), ("lift", "h", 5), ("lift", "h", 5),
                ("hold", "g", "record", "t", 5), ("move", "r", "quick", 5), ("deed", "s", "closed", 5), ("lift", "g", 9),
                ("deed", "s", "nokind", 0), ("hold", "f", "record", "mail", 0)]
        house = house_of(rows)
        self.assertEqual(house.rows(), rows)
        self.assertEqual(house.run(HUGE), [])
        self.assertEqual(house.gone(), {})

    def test_a_record_that_is_put_already(self):
        house = house_of([("put", "r", "mail", 5)])
        for row in [("put", "r", "mail", 5), ("put", "r", "mail", 4), ("put", "r", "quick", 9), ("put", "r", "all", 0)]:
            self.refused(house, PutTwice, row)
        self.assertEqual(house.tell(("put", "rr", "mail", 5)), [])
        self.assertEqual(house.rows(), [("put", "r", "mail", 5), ("put", "rr", "mail", 5)])

    def test_a_record_that_is_gone_is_put_already(self):
        house = house_of([("put", "r", "quick", 5)])
        house.run(5)
        self.refused(house, PutTwice, ("put", "r", "quick", 9))
        self.refused(house, PutTwice, ("put", "r", "loose", 0))
        self.assertEqual(house.run(9), [])

    def test_only_a_put_puts_a_record(self):
        rows = [("move", "r", "mail", 1), ("deed", "r", "put", 1), ("hold", "r", "record", "r", 1), ("lift", "r", 1)]
        house = house_of(rows)
        self.assertEqual(house.tell(("put", "r", "mail", 5)), [])
        self.refused(house, PutTwice, ("put", "r", "mail", 5))

    def test_a_hold_that_is_laid_already(self):
        house = house_of([("hold", "h", "record", "r", 5), ("hold", "g", "series", "all", 5)])
        for row in [("hold", "h", "record", "r", 5), ("hold", "h", "record", "s", 2), ("hold", "h", "series", "all", 9),
                    ("hold", "g", "series", "all", 5), ("hold", "g", "series", "mail", 7), ("hold", "g", "record", "r", 0)]:
            self.refused(house, HeldTwice, row)
        house.tell(("lift", "h", 6))
        self.refused(house, HeldTwice, ("hold", "h", "record", "r", 7))
        self.assertEqual(house.tell(("hold", "hh", "record", "r", 5)), [])

    def test_a_lift_lays_no_hold(self):
        house = house_of([("lift", "h", 5), ("put", "h", "mail", 0), ("deed", "h", "h", 3)])
        self.assertEqual(house.tell(("hold", "h", "record", "h", 5)), [])
        self.refused(house, HeldTwice, ("hold", "h", "record", "h", 5))

    def test_records_and_holds_of_the_same_name(self):
        house = house_of([("put", "all", "all", 5), ("hold", "all", "record", "all", 5)])
        self.refused(house, PutTwice, ("put", "all", "all", 6))
        self.refused(house, HeldTwice, ("hold", "all", "series", "all", 6))
        self.assertEqual(house.tell(("put", "h", "all", 5)), [])
        self.assertEqual(house.tell(("hold", "h", "series", "all", 5)), [])

    def test_a_series_that_the_book_does_not_have(self):
        house = house_of([("put", "r", "mail", 5), ("hold", "h", "record", "r", 5)])
        for row in [("put", "s", "nowhere", 5), ("put", "s", "mailx", 5), ("put", "s", "s", 0), ("move", "r", "nowhere", 5),
                    ("move", "s", "nowhere", 0), ("hold", "g", "series", "nowhere", 9), ("hold", "g", "series", "r", 9)]:
            self.refused(house, NoSeries, row)
        self.assertEqual(house.tell(("hold", "g", "record", "nowhere", 9)), [])
        self.assertEqual(house.tell(("deed", "r", "nowhere", 9)), [])
        self.assertEqual(house.tell(("put", "nowhere", "mail", 9)), [])

    def test_kinds_and_names_that_are_called_like_sorts(self):
        rows = [("deed", "r", "series", 5), ("deed", "r", "record", 5), ("put", "series", "all", 5), ("put", "record", "all", 5),
                ("hold", "series", "record", "series", 5), ("hold", "record", "record", "record", 5), ("lift", "series", 6)]
        house = house_of(rows)
        self.assertEqual(house.rows(), rows)
        self.refused(house, NoSeries, ("put", "r", "series", 5))
        self.refused(house, NoSeries, ("move", "r", "record", 5))
        self.refused(house, NoSeries, ("hold", "h", "series", "series", 5))
        self.refused(house, NoSeries, ("hold", "h", "series", "record", 5))

    def test_every_series_of_the_book_is_known_to_every_sort_of_row(self):
        for name, elder, term in BOOK:
            house = House(BOOK)
            self.assertEqual(house.tell(("put", "r", name, 5)), [])
            self.assertEqual(house.tell(("move", "r", name, 5)), [])
            self.assertEqual(house.tell(("hold", "h", "series", name, 5)), [])

    def test_a_house_without_series(self):
        house = House([])
        self.refused(house, NoSeries, ("put", "r", "all", 5))
        self.refused(house, NoSeries, ("move", "r", "all", 5))
        self.refused(house, NoSeries, ("hold", "h", "series", "all", 5))
        self.assertEqual(house.tell(("deed", "r", "all", 5)), [])
        self.assertEqual(house.tell(("lift", "h", 5)), [])
        self.assertEqual(house.run(9), [])

    def test_where_two_refusals_would_fit(self):
        house = house_of([("put", "r", "mail", 5), ("hold", "h", "record", "r", 5)])
        self.refused(house, PutTwice, ("put", "r", "nowhere", 5))
        self.refused(house, HeldTwice, ("hold", "h", "series", "nowhere", 5))

    def test_what_was_refused_counts_for_nothing_later(self):
        house = house_of([("put", "r", "mail", 5)])
        self.refused(house, NoSeries, ("put", "s", "nowhere", 5))
        self.refused(house, NoSeries, ("hold", "h", "series", "nowhere", 5))
        self.refused(house, PutTwice, ("put", "r", "quick", 5))
        self.assertEqual(house.tell(("put", "s", "mail", 5)), [])
        self.assertEqual(house.tell(("hold", "h", "series", "mail", 5)), [])
        self.assertEqual(house.run(9), [])
        self.refused(house, PutTwice, ("put", "s", "quick", 5))
        self.refused(house, HeldTwice, ("hold", "h", "series", "mail", 5))


class RunTest(HouseTest):
    def test_a_run_that_takes_none(self):
        house = house_of([("put", "r", "mail", 5), ("put", "s", "loose", 5), ("put", "t", "quick", 9)])
        self.assertEqual(house.run(8), [])
        self.assertEqual(self.state_of(house)[1:], ({}, []))

    def test_a_run_that_takes_some(self):
        rows = [("put", "s", "quick", 5), ("put", "r", "mail", 2), ("deed", "r", "closed", 1), ("put", "k", "loose", 0),
                ("put", "h", "quick", 1), ("hold", "x", "record", "h", 3), ("put", "a", "quick", 12)]
        house = house_of(rows)
        self.assertEqual(house.run(11), [
            ("r", "mail", "all", 11, ("closed", 1, 10)),
            ("s", "quick", "quick", 5, ("put", 5, 0)),
        ])
        self.assertEqual(house.gone(), {"r": (1, 11), "s": (1, 11)})
        self.assertEqual(house.regrets(), [])
        self.assertEqual(house.rows(), rows)

    def test_a_run_that_takes_all(self):
        names = ["b", "aa", "a", "ab", "z", "c"]
        house = house_of([("put", name, "quick", place) for place, name in enumerate(names)])
        self.assertEqual([told[0] for told in house.run(5)], sorted(names))
        self.assertEqual(house.gone(), {name: (1, 5) for name in names})
        self.assertEqual(house.run(5), [])

    def test_what_a_run_tells(self):
        rows = [("put", "r", "foreign", 4), ("deed", "r", "paid", 3), ("put", "s", "mail", 4), ("move", "s", "bills", 6),
                ("deed", "s", "paid", 0), ("deed", "s", "closed", 0), ("put", "t", "bills", 0), ("move", "t", "mail", 1),
                ("deed", "t", "closed", 0), ("deed", "t", "closed", 2)]
        answer = house_of(rows).run(30)
        self.assertEqual(answer, [
            ("r", "foreign", "bills", 10, ("paid", 3, 7)),
            ("s", "bills", "bills", 7, ("paid", 0, 7)),
            ("t", "mail", "all", 12, ("closed", 2, 10)),
        ])
        self.assertIs(type(answer), list)
        for told in answer:
            self.assertIs(type(told), tuple)
            self.assertEqual([type(value) for value in told], [str, str, str, int, tuple])
            self.assertEqual([type(value) for value in told[4]], [str, int, int])

    def test_the_day_of_a_put_and_the_due_day(self):
        house = house_of([("put", "r", "bills", 4), ("deed", "r", "paid", 0)])
        for day in range(7):
            self.assertEqual(house.run(day), [])
        self.assertEqual(house.run(7), [("r", "bills", "bills", 7, ("paid", 0, 7))])
        house = house_of([("put", "r", "quick", 4)])
        self.assertEqual(house.run(3), [])
        self.assertEqual([told[0] for told in house.run(4)], ["r"])
        self.assertEqual(house.gone(), {"r": (2, 4)})

    def test_runs_are_numbered_from_one(self):
        house = House(BOOK)
        self.assertEqual(house.run(0), [])
        house.tell(("put", "r", "quick", 0))
        house.run(1)
        self.run_refused(house, 0)
        house.run(1)
        house.tell(("put", "s", "quick", 0))
        house.run(2)
        self.run_refused(house, 1)
        self.run_refused(house, 0)
        house.tell(("put", "t", "quick", 0))
        house.run(2)
        self.assertEqual(house.gone(), {"r": (2, 1), "s": (4, 2), "t": (5, 2)})

    def test_a_run_back(self):
        house = house_of([("put", "r", "quick", 0), ("put", "s", "quick", 7)])
        house.run(5)
        self.run_refused(house, 4)
        self.run_refused(house, 0)
        self.assertEqual(house.run(5), [])
        self.assertEqual([told[0] for told in house.run(7)], ["s"])
        self.run_refused(house, 6)
        self.run_refused(house, 5)
        self.assertEqual(house.run(HUGE), [])
        self.run_refused(house, HUGE - 1)

    def test_a_run_on_day_0(self):
        house = house_of([("put", "r", "quick", 0), ("put", "s", "quick", 1)])
        self.assertEqual(house.run(0), [("r", "quick", "quick", 0, ("put", 0, 0))])
        self.assertEqual(house.run(0), [])
        self.assertEqual(house.gone(), {"r": (1, 0)})

    def test_two_runs_on_one_day(self):
        house = house_of([("put", "r", "quick", 0)])
        self.assertEqual([told[0] for told in house.run(5)], ["r"])
        house.tell(("put", "s", "quick", 5))
        house.tell(("put", "q", "quick", 6))
        self.assertEqual([told[0] for told in house.run(5)], ["s"])
        self.assertEqual(house.gone(), {"r": (1, 5), "s": (2, 5)})

    def test_what_is_gone_is_not_taken_again(self):
        house = house_of([("put", "r", "quick", 0)])
        house.run(5)
        for row in [("deed", "r", "closed", 6), ("move", "r", "all", 6), ("hold", "h", "record", "r", 6), ("lift", "h", 7)]:
            house.tell(row)
            self.assertEqual(house.run(10 ** 6), [])
        self.assertEqual(house.gone(), {"r": (1, 5)})

    def test_holds_and_lifts(self):
        house = house_of([("put", "r", "quick", 0), ("put", "s", "quick", 0), ("put", "m", "mail", 0),
                          ("deed", "m", "closed", 0), ("hold", "h", "record", "r", 2), ("hold", "g", "series", "all", 3)])
        self.assertEqual([told[0] for told in house.run(10)], ["s"])
        house.tell(("lift", "h", 12))
        self.assertEqual(house.run(11), [])
        self.assertEqual([told[0] for told in house.run(12)], ["r"])
        house.tell(("lift", "g", 0))
        self.assertEqual([told[0] for told in house.run(12)], ["m"])
        self.assertEqual(house.gone(), {"s": (1, 10), "r": (3, 12), "m": (4, 12)})

    def test_a_hold_of_a_later_day_does_not_count_yet(self):
        house = house_of([("put", "r", "quick", 0), ("hold", "h", "record", "r", 6), ("hold", "g", "series", "quick", 6)])
        self.assertEqual([told[0] for told in house.run(5)], ["r"])
        self.assertEqual(house.regrets(), [])

    def test_a_lift_of_a_later_day_does_not_count_yet(self):
        house = house_of([("put", "r", "quick", 0), ("hold", "h", "record", "r", 2), ("lift", "h", 6)])
        self.assertEqual(house.run(5), [])
        self.assertEqual([told[0] for told in house.run(6)], ["r"])


class RegretTest(HouseTest):
    def gone_house(self):
        """Record r is gone on day 20 by the first run, s by the second one."""
        house = house_of([("put", "r", "mail", 5), ("deed", "r", "closed", 8), ("put", "s", "quick", 20)])
        self.assertEqual([told[0] for told in house.run(19)], ["r"])
        self.assertEqual([told[0] for told in house.run(20)], ["s"])
        return house

    def test_no_regrets_where_nothing_comes_late(self):
        house = self.gone_house()
        self.assertEqual(house.regrets(), [])
        for row in [("deed", "r", "closed", 20), ("deed", "r", "closed", 9), ("move", "r", "loose", 20),
                    ("hold", "h", "record", "r", 20), ("hold", "g", "series", "all", 20), ("move", "r", "loose", 4),
                    ("deed", "r", "other", 19), ("deed", "s", "closed", 0), ("lift", "h", 21)]:
            self.assertEqual(house.tell(row), [], row)
            self.assertEqual(house.regrets(), [], row)

    def test_kept_by_a_late_deed(self):
        house = self.gone_house()
        self.assertEqual(house.tell(("deed", "r", "closed", 9)), [])
        self.assertEqual(house.tell(("deed", "r", "closed", 10)), ["r"])
        self.assertEqual(house.regrets(), [("r", 1, "kept")])

    def test_kept_by_a_late_move(self):
        house = self.gone_house()
        self.assertEqual(house.tell(("move", "s", "loose", 19)), [])
        self.assertEqual(house.tell(("move", "s", "mail", 20)), [])
        self.assertEqual(house.tell(("move", "r", "bills", 19)), ["r"])
        self.assertEqual(house.regrets(), [("r", 1, "kept")])

    def test_a_late_move_of_the_puts_day(self):
        house = house_of([("put", "r", "mail", 20), ("deed", "r", "closed", 0), ("put", "s", "all", 20),
                          ("deed", "s", "closed", 0)])
        self.assertEqual([told[0] for told in house.run(20)], ["r", "s"])
        self.assertEqual(house.tell(("move", "r", "loose", 20)), [])
        self.assertEqual(house.tell(("move", "s", "loose", 20)), ["s"])
        self.assertEqual(house.tell(("move", "s", "mail", 20)), [])
        self.assertEqual(house.regrets(), [])

    def test_held_by_late_holds(self):
        for row in [("hold", "h", "record", "r", 19), ("hold", "h", "record", "r", 0), ("hold", "h", "series", "mail", 19),
                    ("hold", "h", "series", "all", 19)]:
            house = self.gone_house()
            self.assertEqual(house.tell(row), ["r"], row)
            self.assertEqual(house.regrets(), [("r", 1, "held")])
            self.assertEqual(house.tell(("hold", "g", "record", "r", 3)), [])
            self.assertEqual(house.regrets(), [("r", 1, "held")])
        for row in [("hold", "h", "record", "r", 20), ("hold", "h", "record", "mail", 1), ("hold", "h", "series", "bills", 1),
                    ("hold", "h", "series", "all", 20)]:
            house = self.gone_house()
            self.assertEqual(house.tell(row), [], row)
            self.assertEqual(house.regrets(), [])

    def test_a_hold_whose_lift_was_told_ahead_of_it(self):
        house = self.gone_house()
        self.assertEqual(house.tell(("lift", "h", 19)), [])
        self.assertEqual(house.tell(("hold", "h", "record", "r", 3)), [])
        self.assertEqual(house.regrets(), [])
        self.assertEqual(house.tell(("lift", "g", 20)), [])
        self.assertEqual(house.tell(("hold", "g", "series", "mail", 3)), ["r"])
        self.assertEqual(house.regrets(), [("r", 1, "held")])

    def test_absent_is_a_record_by_no_row_that_the_house_takes(self):
        """Its put counted on its run's day, and rows are never taken back: so no gone record becomes absent."""
        chance = random.Random(23)
        for attempt in range(40):
            house = House(BOOK)
            for row in some_rows(chance, 40):
                answer_of(house.tell, row)
                if chance.random() < 0.2:
                    answer_of(house.run, chance.randrange(30))
                self.assertNotIn("absent", [word for record, number, word in house.regrets()])

    def test_a_later_row_takes_the_regret_away_again(self):
        house = self.gone_house()
        self.assertEqual(house.tell(("hold", "h", "record", "r", 10)), ["r"])
        self.assertEqual(house.tell(("lift", "h", 20)), [])
        self.assertEqual(house.regrets(), [("r", 1, "held")])
        self.assertEqual(house.tell(("lift", "h", 19)), [])
        self.assertEqual(house.regrets(), [])
        self.assertEqual(house.tell(("hold", "g", "series", "all", 10)), ["r"])
        self.assertEqual(house.tell(("move", "r", "loose", 12)), [])
        self.assertEqual(house.regrets(), [("r", 1, "kept")])
        self.assertEqual(house.tell(("move", "r", "quick", 13)), [])
        self.assertEqual(house.regrets(), [])

    def test_a_regret_changes_its_word(self):
        house = self.gone_house()
        self.assertEqual(house.tell(("hold", "h", "record", "r", 0)), ["r"])
        self.assertEqual(house.tell(("deed", "r", "closed", 15)), [])
        self.assertEqual(house.regrets(), [("r", 1, "kept")])
        self.assertEqual(house.tell(("move", "r", "quick", 16)), [])
        self.assertEqual(house.regrets(), [("r", 1, "held")])
        self.assertEqual(house.tell(("move", "r", "loose", 17)), [])
        self.assertEqual(house.tell(("lift", "h", 2)), [])
        self.assertEqual(house.regrets(), [("r", 1, "kept")])
        self.assertEqual(house.tell(("move", "r", "quick", 18)), [])
        self.assertEqual(house.regrets(), [])

    def test_of_two_holds_one_is_lifted(self):
        house = self.gone_house()
        self.assertEqual(house.tell(("hold", "h", "record", "r", 0)), ["r"])
        self.assertEqual(house.tell(("hold", "g", "series", "all", 0)), [])
        self.assertEqual(house.tell(("lift", "h", 0)), [])
        self.assertEqual(house.regrets(), [("r", 1, "held")])
        self.assertEqual(house.tell(("lift", "g", 0)), [])
        self.assertEqual(house.regrets(), [])
        self.assertEqual(house.tell(("hold", "f", "series", "mail", 0)), ["r"])

    def test_only_those_that_came_into_the_regrets_by_the_row(self):
        house = house_of([("put", name, "mail", 5) for name in ["d", "a", "c", "b"]] + [("put", "e", "quick", 5)]
                         + [("deed", name, "closed", 5) for name in ["a", "b", "c", "d"]])
        self.assertEqual(len(house.run(15)), 5)
        self.assertEqual(house.tell(("deed", "b", "closed", 7)), ["b"])
        self.assertEqual(house.tell(("hold", "h", "series", "mail", 15)), ["a", "c", "d"])
        self.assertEqual(house.regrets(), [("a", 1, "held"), ("b", 1, "kept"), ("c", 1, "held"), ("d", 1, "held")])
        self.assertEqual(house.tell(("hold", "g", "series", "quick", 15)), ["e"])
        self.assertEqual(house.tell(("lift", "h", 15)), [])
        self.assertEqual(house.regrets(), [("b", 1, "kept"), ("e", 1, "held")])
        self.assertEqual(house.tell(("hold", "f", "series", "all", 15)), ["a", "c", "d"])

    def test_a_series_hold_reaches_the_series_of_the_runs_day(self):
        house = house_of([("put", "r", "quick", 0), ("put", "s", "quick", 0)])
        house.tell(("move", "s", "mail", 9))
        house.run(5)
        self.assertEqual(house.tell(("hold", "h", "series", "mail", 0)), [])
        self.assertEqual(house.tell(("hold", "g", "series", "quick", 0)), ["r", "s"])

    def test_regrets_by_the_days_of_several_runs(self):
        house = house_of([("put", name, "quick", day) for name, day in [("c", 1), ("a", 3), ("b", 5)]])
        for day in [1, 3, 5]:
            self.assertEqual(len(house.run(day)), 1)
        self.assertEqual(house.tell(("hold", "h", "series", "quick", 3)), ["a", "b"])
        self.assertEqual(house.regrets(), [("a", 2, "held"), ("b", 3, "held")])
        self.assertEqual(house.tell(("lift", "h", 5)), [])
        self.assertEqual(house.regrets(), [("a", 2, "held")])
        self.assertEqual(house.tell(("hold", "g", "series", "quick", 1)), ["b", "c"])

    def test_what_is_not_gone_is_not_regretted(self):
        house = house_of([("put", "r", "mail", 0), ("put", "s", "loose", 0)])
        house.run(50)
        self.assertEqual(house.tell(("hold", "h", "record", "r", 0)), [])
        self.assertEqual(house.tell(("put", "t", "quick", 3)), [])
        self.assertEqual(house.tell(("hold", "g", "series", "quick", 3)), [])
        self.assertEqual(house.regrets(), [])

    def test_a_refused_row_changes_no_regret(self):
        house = self.gone_house()
        house.tell(("hold", "h", "record", "r", 3))
        self.refused(house, HeldTwice, ("hold", "h", "series", "quick", 3))
        self.refused(house, PutTwice, ("put", "s", "loose", 3))
        self.refused(house, NoSeries, ("move", "s", "nowhere", 20))
        self.refused(house, NoSeries, ("hold", "g", "series", "nowhere", 3))
        self.assertEqual(house.regrets(), [("r", 1, "held")])

    def test_kinds_of_what_is_told(self):
        house = self.gone_house()
        answer = house.tell(("hold", "h", "record", "r", 3))
        self.assertIs(type(answer), list)
        self.assertIs(type(house.regrets()), list)
        self.assertEqual([type(value) for value in house.regrets()[0]], [str, int, str])
        self.assertIs(type(house.regrets()[0]), tuple)
        self.assertIs(type(house.gone()), dict)
        self.assertEqual([type(value) for value in house.gone().values()], [tuple, tuple])


def some_terms(chance):
    kinds = ["put", "closed", "paid"]
    def made(depth):
        sort = chance.randrange(5) if depth > 0 else 4
        if sort == 0:
            return never()
        if sort in (1, 2):
            return [later, earlier][sort - 1](made(depth - 1), made(depth - 1))
        return after(chance.choice(kinds), chance.randrange(12))
    return made(2)


def some_book(chance):
    book = []
    for name in ["x", "y", "z", "w"]:
        elder = chance.choice([None] + [series[0] for series in book])
        book.append((name, elder, some_terms(chance) if elder is None or chance.random() < 0.5 else None))
    return book


def some_rows(chance, many, series=("all", "mail", "bills", "foreign", "loose", "quick")):
    records, holds, kinds = ["r", "s", "t", "u", "v"], ["h", "g", "f", "e", "r"], ["put", "closed", "paid"]
    rows = []
    for place in range(many):
        day = chance.randrange(30)
        sort = chance.choice(["put", "put", "move", "deed", "deed", "hold", "lift"])
        if sort == "put" or sort == "move":
            rows.append((sort, chance.choice(records), chance.choice(series), day))
        elif sort == "deed":
            rows.append((sort, chance.choice(records), chance.choice(kinds), day))
        elif sort == "lift":
            rows.append((sort, chance.choice(holds), day))
        elif chance.random() < 0.5:
            rows.append((sort, chance.choice(holds), "record", chance.choice(records), day))
        else:
            rows.append((sort, chance.choice(holds), "series", chance.choice(series), day))
    return rows


def answer_of(ask, *values):
    try:
        return ask(*values)
    except HallError as error:
        return type(error)


class ChanceTest(HouseTest):
    def test_as_a_house_that_judges_everything_anew(self):
        chance = random.Random(21)
        seen = set()
        for attempt in range(250):
            book = some_book(chance)
            house, plain = House(book), PlainHouse(book)
            for row in some_rows(chance, 25, ("x", "y", "z", "w", "nowhere")):
                if chance.random() < 0.25:
                    day = chance.randrange(30)
                    found = answer_of(house.run, day)
                    self.assertEqual(found, answer_of(plain.run, day))
                    seen.add("run back" if found is RunBack else f"run {min(len(found), 2)}")
                found = answer_of(house.tell, row)
                self.assertEqual(found, answer_of(plain.tell, row))
                seen.add(found if isinstance(found, type) else f"told {min(len(found), 2)}")
                self.assertEqual(house.regrets(), plain.regrets())
                seen.update([word for record, number, word in house.regrets()])
            self.assertEqual(house.gone(), plain.gone())
            self.assertEqual(house.rows(), plain.rows())
        self.assertEqual(seen, {PutTwice, HeldTwice, NoSeries, "run back", "run 0", "run 1", "run 2", "told 0", "told 1",
                                "told 2", "kept", "held"})


class OwnTest(HouseTest):
    """Nothing that is handed in is kept, and what is told is the asker's own (2)."""

    def test_the_book_is_changed_behind_the_call(self):
        book = list(BOOK)
        house = House(book)
        self.assertEqual(book, BOOK)
        del book[:]
        house.tell(("put", "r", "foreign", 0))
        house.tell(("deed", "r", "paid", 0))
        book.append(("foreign", None, never()))
        self.assertEqual(house.run(7), [("r", "foreign", "bills", 7, ("paid", 0, 7))])
        book.append(("new", None, never()))
        self.refused(house, NoSeries, ("put", "s", "new", 0))

    def test_nothing_that_is_handed_in_is_changed(self):
        book = list(BOOK)
        ahead = copy.copy(book)
        row = ("put", "r", "quick", 0)
        house = House(book)
        house.tell(row)
        house.run(0)
        house.tell(("hold", "h", "series", "quick", 0))
        house.regrets()
        self.assertEqual(book, ahead)
        self.assertEqual(row, ("put", "r", "quick", 0))

    def test_what_is_told_is_the_askers_own(self):
        house = house_of([("put", "r", "quick", 0), ("put", "s", "quick", 0), ("put", "t", "quick", 9)])
        taken = house.run(5)
        taken.clear()
        fresh = house.tell(("hold", "h", "series", "quick", 4))
        self.assertEqual(fresh, ["r", "s"])
        fresh.append("t")
        for ask in [house.rows, house.gone, house.regrets]:
            told = ask()
            ahead = copy.deepcopy(told)
            self.assertIsNot(ask(), told)
            told.clear()
            self.assertEqual(ask(), ahead)
        house.gone()["t"] = (1, 5)
        house.rows().append(("put", "u", "quick", 0))
        house.regrets().append(("t", 1, "held"))
        self.assertEqual(house.gone(), {"r": (1, 5), "s": (1, 5)})
        self.assertEqual(house.regrets(), [("r", 1, "held"), ("s", 1, "held")])
        house.tell(("lift", "h", 3))
        self.assertEqual([told[0] for told in house.run(9)], ["t"])
        self.assertEqual(house.run(9), [])

    def test_what_was_told_stays_as_it_was(self):
        house = house_of([("put", "r", "quick", 0), ("put", "s", "quick", 6)])
        taken = house.run(5)
        fresh = house.tell(("hold", "h", "record", "r", 4))
        told = [taken, fresh, house.rows(), house.gone(), house.regrets()]
        ahead = copy.deepcopy(told)
        house.tell(("hold", "g", "record", "r", 4))
        house.run(6)
        house.tell(("hold", "f", "series", "quick", 2))
        house.tell(("move", "s", "loose", 6))
        self.assertEqual(told, ahead)

    def test_two_houses_beside_one_another(self):
        one, other = House(BOOK), House(BOOK)
        one.tell(("put", "r", "quick", 0))
        one.run(9)
        self.assertEqual(self.state_of(other), ([], {}, []))
        self.assertEqual(other.tell(("put", "r", "loose", 0)), [])
        self.assertEqual(other.run(3), [])
        self.assertEqual(one.tell(("hold", "h", "record", "r", 0)), ["r"])
        self.assertEqual(other.tell(("hold", "h", "record", "r", 0)), [])
        self.assertEqual(other.regrets(), [])


class SizeTest(HouseTest):
    def test_days_of_fifty_figures(self):
        book = [("long", None, after("put", HUGE)), ("short", None, after("put", 0))]
        house = house_of([("put", "r", "long", 0), ("put", "s", "short", HUGE), ("put", "t", "long", 1)], book)
        self.assertEqual(house.run(HUGE - 1), [])
        self.assertEqual(house.run(HUGE), [("r", "long", "long", HUGE, ("put", 0, HUGE)),
                                           ("s", "short", "short", HUGE, ("put", HUGE, 0))])
        self.assertEqual(house.run(HUGE + 1), [("t", "long", "long", HUGE + 1, ("put", 1, HUGE))])
        self.assertEqual(house.tell(("hold", "h", "series", "long", HUGE)), ["r", "t"])

    def test_a_thousand_rows_and_a_hundred_series(self):
        names = [one + other for one, other in itertools.product("abcdefghij", repeat=2)]
        book = [(names[0], None, after("put", 1))]
        book += [(name, elder, None) for elder, name in zip(names, names[1:])]
        records = [first + name for first in "xyz" for name in names]
        house = House(book)
        for place, record in enumerate(records):
            self.assertEqual(house.tell(("put", record, names[place % 100], 1)), [])
        self.assertEqual([told[0] for told in house.run(2)], sorted(records))
        for place in range(350):
            hold = "h" + names[place // 100] + names[place % 100]
            self.assertEqual(house.tell(("hold", hold, "series", names[0], 2)), sorted(records))
            self.assertEqual(house.tell(("lift", hold, 2)), [])
        self.assertEqual(len(house.rows()), 1000)
        self.assertEqual(house.regrets(), [])

    def test_a_thousand_rows_of_chance(self):
        chance = random.Random(22)
        house, plain = House(BOOK), PlainHouse(BOOK)
        letters = "abcdefgh"
        names = [one + other for one, other in itertools.product(letters, repeat=2)]
        told = 0
        while told < 1000:
            row = some_rows(chance, 1)[0]
            row = row[:1] + (chance.choice(names),) + row[2:]
            if row[0] == "hold" and row[2] == "record":
                row = row[:3] + (chance.choice(names),) + row[4:]
            found = answer_of(house.tell, row)
            if isinstance(found, list):
                plain.told.append(row)
                told += 1
            if told % 40 == 0:
                day = told // 40
                self.assertEqual(answer_of(house.run, day), answer_of(plain.run, day))
            if told % 100 == 0:
                self.assertEqual(house.regrets(), plain.regrets())
        self.assertEqual(house.rows(), plain.rows())
        self.assertEqual(house.gone(), plain.gone())
        self.assertEqual(house.regrets(), plain.regrets())


if __name__ == "__main__":
    unittest.main()
