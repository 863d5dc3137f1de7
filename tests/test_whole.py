"""Promises 1, 3 and 4: what holds over the whole program."""

import itertools
import random
import unittest

from disposehall.books import book_read, line_of, owner_of, term_of
from disposehall.comparing import parted
from disposehall.days import day_shown
from disposehall.desk import Desk
from disposehall.errors import HallError, Unlike
from disposehall.foretold import first_due, foretold
from disposehall.house import House
from disposehall.judging import judged, reason
from disposehall.terms import after, earlier, later, never, term_read

SERIES = ["x", "y", "z", "v"]
RECORDS = ["r", "s", "t", "u"]
KINDS = ["put", "a", "b"]
DAYS = 30


def some_term(chance, depth=2):
    sort = chance.randrange(6) if depth > 0 else 5
    if sort == 0:
        return never()
    if sort in (1, 2):
        return [later, earlier][sort - 1](some_term(chance, depth - 1), some_term(chance, depth - 1))
    return after(chance.choice(KINDS), chance.randrange(10))


def some_book(chance):
    book = []
    for name in SERIES:
        elder = chance.choice([None] + [series[0] for series in book])
        book.append((name, elder, some_term(chance) if elder is None or chance.random() < 0.5 else None))
    return book


def some_rows(chance, many):
    """Each record is put once, and some more is told; in an order of chance. None of them is refused."""
    rows = [("put", record, chance.choice(SERIES), chance.randrange(DAYS)) for record in RECORDS]
    for place in range(many):
        day = chance.randrange(DAYS)
        record, hold, series = chance.choice(RECORDS), "hold" + "abcdefghij"[place % 10], chance.choice(SERIES)
        sort = chance.choice(["move", "deed", "deed", "hold", "lift"])
        if sort == "move":
            rows.append((sort, record, series, day))
        elif sort == "deed":
            rows.append((sort, record, chance.choice(KINDS), day))
        elif sort == "lift":
            rows.append((sort, "hold" + chance.choice("abcdefghij"), day))
        elif ("hold", hold) not in [row[:2] for row in rows]:
            rows.append((sort, hold) + chance.choice([("record", record), ("series", series)]) + (day,))
    chance.shuffle(rows)
    return rows


def some_plan(chance, many=16):
    """A list of lists of rows, each with the day of the run behind them."""
    rows = some_rows(chance, many)
    days = sorted(chance.randrange(DAYS + 10) for place in range(4))
    cuts = sorted(chance.randrange(len(rows) + 1) for place in range(3))
    return [(rows[begin:end], day) for begin, end, day in zip([0] + cuts, cuts + [len(rows)], days)]


def runs_of(book, plan):
    house = House(book)
    answers = []
    for rows, day in plan:
        for row in rows:
            house.tell(row)
        answers.append((house.run(day), house.regrets()))
    return answers, house.gone()


def is_due_and_free(book, rows, record, day):
    """The plain words of promise 3: put in by that day, due by that day, under no hold on that day."""
    told = [row for row in rows if row[-1] <= day]
    if ("put", record) not in [row[:2] for row in told]:
        return False
    series = max((row[3], row[2]) for row in told if row[:2] in (("put", record), ("move", record)))[1]
    life = {}
    for row in told:
        if row[:2] == ("put", record):
            life["put"] = max(row[3], life.get("put", 0))
        if row[:2] == ("deed", record):
            life[row[2]] = max(row[3], life.get(row[2], 0))
    due = term_of(book, series).due(life)
    lifted = [row[1] for row in told if row[0] == "lift"]
    over = [("record", record)] + [("series", name) for name in line_of(book, series)]
    held = [row for row in told if row[0] == "hold" and row[1] not in lifted and (row[2], row[3]) in over]
    return due is not None and due <= day and not held


class RunsTest(unittest.TestCase):
    def test_a_run_takes_all_that_is_due_and_free_and_nothing_else(self):
        chance = random.Random(31)
        taken = 0
        for attempt in range(200):
            book, plan = some_book(chance), some_plan(chance)
            house, told, gone = House(book), [], {}
            for rows, day in plan:
                for row in rows:
                    house.tell(row)
                told += rows
                due = [record for record in RECORDS if record not in gone and is_due_and_free(book, told, record, day)]
                self.assertEqual([one[0] for one in house.run(day)], sorted(due))
                gone.update({record: day for record in due})
                taken += len(due)
        self.assertGreater(taken, 200)

    def test_what_comes_with_each_record(self):
        chance = random.Random(32)
        for attempt in range(200):
            book, plan = some_book(chance), some_plan(chance)
            house = House(book)
            for rows, day in plan:
                for row in rows:
                    house.tell(row)
                for record, series, owner, due, (kind, since, length) in house.run(day):
                    told = house.rows()
                    self.assertEqual(judged(book, told, record, day), ("due", series, owner, due, []))
                    self.assertEqual(reason(book, told, record, day), (kind, since, length))
                    self.assertEqual(owner_of(book, series), owner)
                    self.assertLessEqual(due, day)
                    self.assertEqual(since + length, due)
                    self.assertIn((kind, length), term_of(book, owner).leaves())
                    deeds = [row[2:] for row in told if row[:2] == ("deed", record)]
                    deeds += [("put", row[3]) for row in told if row[:2] == ("put", record)]
                    self.assertIn((kind, since), deeds)

    def test_regrets_are_what_would_not_have_been_disposed_of(self):
        chance = random.Random(33)
        words = set()
        for attempt in range(200):
            book, plan = some_book(chance), some_plan(chance)
            house = House(book)
            for rows, day in plan:
                for row in rows:
                    ahead = [told[0] for told in house.regrets()]
                    fresh = house.tell(row)
                    regretted = []
                    for record, (number, run_day) in sorted(house.gone().items()):
                        word = judged(book, house.rows(), record, run_day)[0]
                        if not is_due_and_free(book, house.rows(), record, run_day):
                            regretted.append((record, number, word))
                            words.add(word)
                    self.assertEqual(house.regrets(), regretted)
                    self.assertEqual(fresh, [told[0] for told in regretted if told[0] not in ahead])
                house.run(day)
        self.assertEqual(words, {"kept", "held"})

    def test_rows_between_two_runs_in_whatever_order(self):
        chance = random.Random(34)
        for attempt in range(100):
            book, plan = some_book(chance), some_plan(chance)
            answer = runs_of(book, plan)
            for order in range(5):
                turned = [(chance.sample(rows, len(rows)), day) for rows, day in plan]
                self.assertEqual(runs_of(book, turned), answer)
            self.assertEqual(runs_of(book, [(rows[::-1], day) for rows, day in plan]), answer)

    def test_few_rows_in_every_order(self):
        book = book_read("series x after a 2d\nseries y under x\nseries z later after put 1d after a 0d")
        rows = [("put", "r", "y", 3), ("deed", "r", "a", 1), ("move", "r", "z", 4), ("hold", "h", "series", "x", 2), ("lift", "h", 3)]
        for day in range(8):
            late = [("deed", "r", "a", day)]
            answers = [runs_of(book, [(list(order), day), (late, day), ([], 9)]) for order in itertools.permutations(rows)]
            for answer in answers:
                self.assertEqual(answer, answers[0])

    def test_a_late_row_changes_what_is_due_as_if_it_had_come_in_time(self):
        chance = random.Random(35)
        for attempt in range(100):
            book, plan = some_book(chance), some_plan(chance)
            every = [row for rows, day in plan for row in rows]
            late, in_time = House(book), House(book)
            for rows, day in plan:
                for row in rows:
                    late.tell(row)
                gone = late.gone()
                taken = late.run(day)
            for row in every:
                in_time.tell(row)
            self.assertEqual(taken, [told for told in in_time.run(plan[-1][1]) if told[0] not in gone])
            for record, (number, day) in late.gone().items():
                fresh = House(book)
                for row in every:
                    fresh.tell(row)
                would = record in [told[0] for told in fresh.run(day)]
                self.assertEqual(would, record not in [told[0] for told in late.regrets()])

    def test_days_foretold_are_the_first_on_which_runs_can_dispose(self):
        chance = random.Random(36)
        for attempt in range(60):
            book, rows, begin = some_book(chance), some_rows(chance, 14), chance.randrange(DAYS)
            found = []
            for day in range(begin, 2 * DAYS):
                house = House(book)
                for row in rows:
                    house.tell(row)
                found += [(day, told[0]) for told in house.run(day)]
            firsts = {record: day for day, record in reversed(found)}
            self.assertEqual(foretold(book, rows, begin), sorted((day, record) for record, day in firsts.items()))
            for record in RECORDS:
                self.assertEqual(first_due(book, rows, record, begin), firsts.get(record))

    def test_the_desk_answers_as_the_house(self):
        chance = random.Random(37)
        for attempt in range(60):
            book, plan = some_book(chance), some_plan(chance)
            house, desk = House(book), Desk(book)
            for rows, day in plan:
                for row in rows:
                    text = " ".join(list(row[:-1]) + [day_shown(row[-1])])
                    self.assertEqual(desk.say(text), " ".join(house.tell(row)) or "ok")
                taken = house.run(day)
                self.assertEqual(desk.say("run " + day_shown(day)),
                                 ", ".join(told[0] + " " + day_shown(told[3]) for told in taken) or "none")
                for record in RECORDS + ["nobody"]:
                    self.assertEqual(desk.say(f"ask {record} {day_shown(day)}"), judged(book, house.rows(), record, day)[0])
                    self.assertEqual(desk.say(f"why {record}") == "not gone", record not in house.gone())


def written_otherwise(chance, term):
    more = some_term(chance, 1)
    return chance.choice([
        term_read(term.shown()), later(term, term), earlier(term, later(more, term)), later(term, earlier(term, more)),
        earlier(never(), term),
    ])


def book_otherwise(chance, book):
    """A book with the same series, whose terms are each written otherwise; in another order, and without elders."""
    other = [(name, None, written_otherwise(chance, term_of(book, name))) for name, elder, term in book]
    return chance.sample(other, len(other))


def record_with(life, series, day):
    """Rows of a record with just these deeds. A record has always a put: where the life has none, one so late that
    no term comes to a day ahead of it by it."""
    rows = [("put", "r", series, life.get("put", day))]
    return rows + [("deed", "r", kind, done) for kind, done in life.items() if kind != "put"]


class BooksTest(unittest.TestCase):
    def same_runs(self, one, other, plan):
        found = []
        for book in (one, other):
            answers, gone = runs_of(book, plan)
            taken = [[(told[0], told[1], told[3]) for told in run] for run, regrets in answers]
            found.append((taken, [regrets for run, regrets in answers], gone))
        self.assertEqual(found[0], found[1])

    def test_alike_books_have_the_same_runs(self):
        chance = random.Random(41)
        for attempt in range(100):
            one = some_book(chance)
            other = [(name, elder, term and written_otherwise(chance, term)) for name, elder, term in one]
            self.assertIsNone(parted(one, other))
            self.same_runs(one, other, some_plan(chance))

    def test_alike_books_with_other_elders_have_the_same_runs_but_for_holds_on_series(self):
        chance = random.Random(46)
        for attempt in range(100):
            one = some_book(chance)
            other = book_otherwise(chance, one)
            self.assertIsNone(parted(one, other))
            plan = [([row for row in rows if row[0] != "hold" or row[2] == "record"], day) for rows, day in some_plan(chance)]
            self.same_runs(one, other, plan)

    def test_every_record_is_due_on_the_same_day_by_alike_books(self):
        chance = random.Random(42)
        alike = 0
        for attempt in range(400):
            one = [("x", None, some_term(chance))]
            other = [("x", None, some_term(chance))] if chance.random() < 0.5 else book_otherwise(chance, one)
            lives = [dict(zip(picked, days)) for many in range(3) for picked in itertools.combinations(["a", "b"], many)
                     for days in itertools.product([0, 3, 7], repeat=many)]
            dues = [[judged(book, record_with(dict(life, put=5), "x", 5), "r", 99)[3] for life in lives] for book in (one, other)]
            if parted(one, other) is None:
                alike += 1
                self.assertEqual(dues[0], dues[1])
        self.assertGreater(alike, 100)

    def test_a_record_with_just_the_lifes_deeds_is_due_on_two_days(self):
        chance = random.Random(43)
        apart = 0
        for attempt in range(300):
            one, other = some_book(chance), some_book(chance)
            if chance.random() < 0.7:
                other = book_otherwise(chance, one)
                name, elder, term = other[0]
                other[0] = (name, elder, chance.choice([later, earlier])(term, some_term(chance, 1)))
            told = parted(one, other)
            if told is not None:
                apart += 1
                rows = record_with(told[1], told[0], 1000)
                dues = [judged(book, rows, "r", 2000)[3] for book in (one, other)]
                self.assertNotEqual(dues[0], dues[1])
        self.assertGreater(apart, 150)

    def test_no_life_with_fewer_deeds_parts_them(self):
        chance = random.Random(44)
        several = 0
        for attempt in range(150):
            one = some_book(chance)
            three = later(later(after("put", 9), after("a", 9)), after("b", 9))
            one = [(name, None, chance.choice([later(term_of(one, name), three), term_of(one, name)])) for name in SERIES]
            other = book_otherwise(chance, one)
            name, elder, term = other[0]
            other[0] = (name, elder, later(term, chance.choice([after("a", 12), after("b", 11)])))
            told = parted(one, other)
            if told is None:
                continue
            fewer = [dict(zip(picked, days)) for many in range(len(told[1])) for picked in itertools.combinations(KINDS, many)
                     for days in itertools.product(range(0, 13, 3), repeat=many)]
            several += len(told[1]) > 1
            for name, life in itertools.product(SERIES, fewer):
                self.assertEqual(term_of(one, name).due(life), term_of(other, name).due(life))
        self.assertGreater(several, 10)

    def test_books_with_unlike_series_are_not_compared(self):
        chance = random.Random(45)
        book = some_book(chance)
        with self.assertRaises(Unlike) as caught:
            parted(book, book + [("w", None, never())])
        self.assertEqual(caught.exception.name, "w")
        self.assertIsInstance(caught.exception, HallError)


class StoryTest(unittest.TestCase):
    def test_a_house_from_its_book_to_its_regrets(self):
        """Promise 1, told once from the beginning to the end."""
        book = book_read("series all after closed 10y\nseries mail under all\nseries bills under all after paid 7y")
        desk = Desk(book)
        for text, answer in [
            ("put letter mail 1990-01-01", "ok"), ("put bill bills 1990-01-01", "ok"), ("put note mail 1991-01-01", "ok"),
            ("deed letter closed 1990-06-15", "ok"), ("deed bill paid 1992-01-01", "ok"), ("deed note closed 1991-02-01", "ok"),
            ("run 1998-12-30", "none"), ("run 1999-01-01", "bill 1999-01-01"), ("hold court series mail 2000-01-01", "ok"),
            ("run 2001-06-01", "none"), ("lift court 2001-06-02", "ok"),
            ("run 2001-06-02", "letter 2000-06-15, note 2001-02-01"), ("why letter", "run 4 mail all closed 1990-06-15 10y"),
            ("why bill", "run 2 bills bills paid 1992-01-01 7y"), ("regrets", "none"),
            ("deed note closed 1995-03-03", "note"), ("regrets", "note 4 kept"), ("hold tax record bill 1998-01-01", "bill"),
            ("regrets", "bill 2 held, note 4 kept"), ("lift tax 1998-06-01", "ok"), ("ask bill 1998-12-30", "kept"),
            ("regrets", "note 4 kept"),
        ]:
            self.assertEqual(desk.say(text), answer, text)
        other = book_read("series bills after paid 7y\nseries all after closed 3600d\nseries mail under all")
        self.assertIsNone(parted(book, other))
        changed = book_read("series bills after paid 7y\nseries all after closed 10y\nseries mail later after closed 10y after lent 0d")
        series, life = parted(book, changed)
        self.assertEqual((series, sorted(life)), ("mail", ["closed"]))


if __name__ == "__main__":
    unittest.main()
