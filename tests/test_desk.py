"""Promises 26 and 27, and promise 2 as far as it speaks of the desk."""

import itertools
import random
import unittest

from disposehall.books import book_read
from disposehall.days import day_shown, length_shown
from disposehall.desk import Desk
from disposehall.errors import HallError, HeldTwice, NoRow, NoSeries, PutTwice, RunBack
from disposehall.house import House
from disposehall.judging import judged
from disposehall.terms import after, never

HUGE = 10 ** 50 - 1
BOOK = book_read("""series all after closed 10d
series mail under all
series bills under all later after paid 2m after put 3d
series foreign under bills
series loose never
series quick after put 0d
series record after put 1y
series series under record
series put never""")
SHORT_BOOK = book_read("""series all after closed 3d
series mail under all
series bills under all later after paid 2d after put 1d
series foreign under bills
series loose never
series quick after put 0d
series record earlier after paid 5d after put 4d
series series under record""")
ROWS = [
    "put r mail 0-01-05", "move r all 0-01-06", "deed r closed 0-01-07", "hold h record r 0-01-08",
    "hold g series mail 0-01-09", "lift h 0-01-10",
]
ASKS = ["run 0-02-01", "ask r 0-02-01", "why r", "regrets"]


def desk_told(texts, book=BOOK):
    desk = Desk(book)
    for text in texts:
        desk.say(text)
    return desk


class DeskTest(unittest.TestCase):
    def talk(self, desk, *said):
        """Texts and answers, one behind the other."""
        for text, answer in said:
            found = desk.say(text)
            self.assertEqual(found, answer, text)
            self.assertIs(type(found), str)

    def state_of(self, desk):
        asked = ["regrets"]
        for name in ["r", "s", "t", "all", "record"]:
            asked += [f"why {name}", f"ask {name} 0-01-01", f"ask {name} 0-02-01", f"ask {name} 9-01-01"]
        return [desk.say(text) for text in asked]

    def refused(self, desk, error, *texts):
        """Twice refused, and nothing is changed by it."""
        ahead = self.state_of(desk)
        for text in texts:
            for again in range(2):
                with self.subTest(text=text[:60]):
                    with self.assertRaises(HallError) as caught:
                        desk.say(text)
                    self.assertIs(type(caught.exception), error)
        self.assertEqual(self.state_of(desk), ahead)


class RowsTest(DeskTest):
    def test_every_row_is_taken(self):
        self.talk(Desk(BOOK), *[(text, "ok") for text in ROWS])

    def test_rows_do_what_they_do_in_the_house(self):
        self.talk(
            Desk(BOOK),
            ("put r mail 0-01-05", "ok"), ("ask r 0-01-04", "absent"), ("ask r 0-01-05", "kept"),
            ("deed r closed 0-01-07", "ok"), ("ask r 0-01-16", "kept"), ("ask r 0-01-17", "due"),
            ("hold h record r 0-01-18", "ok"), ("ask r 0-01-17", "due"), ("ask r 0-01-18", "held"),
            ("lift h 0-01-19", "ok"), ("ask r 0-01-18", "held"), ("ask r 0-01-19", "due"),
            ("hold g series all 0-01-20", "ok"), ("ask r 0-01-19", "due"), ("ask r 0-01-20", "held"),
            ("move r quick 0-01-21", "ok"), ("ask r 0-01-20", "held"), ("ask r 0-01-21", "due"),
            ("move r loose 0-01-22", "ok"), ("ask r 0-01-22", "kept"), ("ask s 0-01-22", "absent"),
        )

    def test_regretted_records_with_blanks_between(self):
        desk = desk_told([f"put {name} quick 0-01-01" for name in ["c", "a", "b", "ab"]])
        self.talk(
            desk, ("run 0-01-05", "a 0-01-01, ab 0-01-01, b 0-01-01, c 0-01-01"), ("move b loose 0-01-05", "b"),
            ("hold h series quick 0-01-05", "a ab c"), ("hold g series quick 0-01-02", "ok"),
            ("regrets", "a 1 held, ab 1 held, b 1 kept, c 1 held"), ("lift h 0-01-02", "ok"), ("lift g 0-01-05", "ok"),
            ("regrets", "b 1 kept"), ("move b quick 0-01-05", "ok"), ("regrets", "none"), ("hold f record c 0-01-01", "c"),
            ("hold e record c 0-01-01", "ok"), ("hold d record a 0-01-06", "ok"), ("regrets", "c 1 held"),
        )

    def test_names_alike(self):
        self.talk(
            Desk(BOOK),
            ("put record record 0-01-01", "ok"), ("put series series 0-01-01", "ok"), ("put put put 0-01-01", "ok"),
            ("deed put put 0-01-02", "ok"), ("deed record record 0-01-01", "ok"), ("move put put 0-01-02", "ok"),
            ("run 0-12-30", "none"), ("hold record record record 1-01-01", "ok"),
            ("hold series series series 1-01-01", "ok"), ("ask record 1-01-01", "held"), ("ask series 1-01-01", "held"),
            ("lift record 1-01-01", "ok"), ("ask record 1-01-01", "due"), ("lift series 1-01-01", "ok"),
            ("run 1-01-01", "record 1-01-01, series 1-01-01"), ("why series", "run 2 series record put 0-01-01 1y"),
            ("why record", "run 2 record record put 0-01-01 1y"), ("why put", "not gone"),
            ("hold put series record 1-01-01", "record series"), ("hold hold record hold 0-01-01", "ok"),
            ("regrets", "record 2 held, series 2 held"), ("lift put 1-01-01", "ok"), ("regrets", "none"),
            ("put regrets quick 0-01-01", "ok"), ("put run quick 0-01-01", "ok"), ("put why quick 0-01-01", "ok"),
            ("put ask quick 0-01-01", "ok"), ("ask ask 0-01-01", "due"), ("why why", "not gone"),
            ("run 1-01-01", "ask 0-01-01, regrets 0-01-01, run 0-01-01, why 0-01-01"),
            ("why why", "run 3 quick quick put 0-01-01 0y"), ("why regrets", "run 3 quick quick put 0-01-01 0y"),
            ("deed none ok 0-01-01", "ok"), ("deed put series 0-01-01", "ok"), ("deed put record 0-01-01", "ok"), ("lift lift 0-01-01", "ok"),
        )

    def test_names_of_one_and_of_twelve_letters(self):
        self.talk(
            Desk([("abcdefghijkl", None, after("zzzzzzzzzzzz", 1)), ("x", None, never())]),
            ("put nopqrstuvwxy abcdefghijkl 0-01-01", "ok"), ("deed nopqrstuvwxy zzzzzzzzzzzz 0-01-01", "ok"),
            ("hold mmmmmmmmmmmm series abcdefghijkl 0-01-01", "ok"), ("lift mmmmmmmmmmmm 0-01-03", "ok"),
            ("run 0-01-02", "none"), ("run 0-01-03", "nopqrstuvwxy 0-01-02"),
            ("why nopqrstuvwxy", "run 2 abcdefghijkl abcdefghijkl zzzzzzzzzzzz 0-01-01 1d"),
            ("put a x 0-01-01", "ok"), ("ask a 0-01-01", "kept"),
        )


class AsksTest(DeskTest):
    def test_runs(self):
        self.talk(
            desk_told(["put s quick 0-01-05", "put r mail 0-01-01", "deed r closed 0-01-01", "put q loose 0-01-01"]),
            ("run 0-01-01", "none"), ("run 0-01-04", "none"), ("run 0-01-20", "r 0-01-11, s 0-01-05"), ("run 0-01-20", "none"),
            ("put t quick 0-01-20", "ok"), ("run 0-01-20", "t 0-01-20"), ("run 9999-12-30", "none"),
        )
        self.talk(Desk([]), ("run 0-01-01", "none"))

    def test_due_days_of_many_figures(self):
        book = [("m", None, after("put", HUGE)), ("n", None, after("put", 360 * 10 ** 40))]
        year = "9" * 40
        self.talk(
            Desk(book), (f"put r n {year}-12-30", "ok"), ("put s n 0-01-01", "ok"), ("put t m 0-01-01", "ok"),
            (f"ask r {year}-12-30", "kept"), (f"ask s {year}-12-30", "kept"), (f"run {year}-12-30", "none"),
            (f"run {year}-12-30", "none"),
        )
        book = [("m", None, after("put", 359))]
        self.talk(
            Desk(book), (f"put r m {'9' * 39}8-01-01", "ok"), (f"run {year}-12-30", f"r {'9' * 39}8-12-30"),
            ("why r", f"run 1 m m put {'9' * 39}8-01-01 359d"),
        )

    def test_asks(self):
        desk = desk_told(["put r quick 0-01-05", "run 0-01-06"])
        self.talk(desk, ("ask r 0-01-04", "absent"), ("ask r 0-01-05", "due"), ("ask r 5-01-05", "due"),
                  ("ask nobody 5-01-05", "absent"), ("hold h record r 0-01-06", "r"), ("ask r 0-01-05", "due"),
                  ("ask r 0-01-06", "held"), ("ask h 0-01-06", "absent"), ("ask quick 0-01-06", "absent"))

    def test_asks_are_no_runs(self):
        self.talk(desk_told(["put r quick 0-01-05"]), ("ask r 9-01-05", "due"), ("ask r 0-01-01", "absent"),
                  ("run 0-01-06", "r 0-01-05"), ("why r", "run 1 quick quick put 0-01-05 0y"))

    def test_why(self):
        desk = desk_told(["put r foreign 0-01-04", "deed r paid 0-01-03", "put s mail 0-01-01", "deed s closed 0-02-30",
                          "run 0-01-01"])
        self.talk(
            desk, ("why r", "not gone"), ("why nobody", "not gone"), ("run 0-03-30", "r 0-03-03, s 0-03-10"),
            ("why r", "run 2 foreign bills paid 0-01-03 2m"), ("why s", "run 2 mail all closed 0-02-30 10d"),
            ("why foreign", "not gone"), ("why rr", "not gone"),
        )

    def test_why_tells_what_was_told_then(self):
        desk = desk_told(["put r foreign 0-01-04", "deed r paid 0-01-03", "run 0-03-30"])
        answer = "run 1 foreign bills paid 0-01-03 2m"
        self.talk(
            desk, ("why r", answer), ("deed r paid 0-02-03", "r"), ("why r", answer), ("move r loose 0-02-05", "ok"),
            ("why r", answer), ("hold h record r 0-01-01", "ok"), ("run 9-01-01", "none"), ("why r", answer),
            ("regrets", "r 1 kept"),
        )

    def test_lengths_as_they_are_shown(self):
        for days, shown in [(0, "0y"), (1, "1d"), (30, "1m"), (360, "1y"), (359, "359d"), (390, "13m"), (720, "2y")]:
            desk = desk_told(["put r m 0-01-01", "run 5-01-01"], [("m", None, after("put", days))])
            self.talk(desk, ("why r", f"run 1 m m put 0-01-01 {shown}"))

    def test_regrets(self):
        desk = desk_told(["put c quick 0-01-01", "run 0-01-02", "run 0-01-03", "put a mail 0-01-04", "deed a closed 0-01-02",
                          "put b quick 0-01-04", "run 0-01-12"])
        self.talk(
            desk, ("regrets", "none"), ("deed a closed 0-01-12", "a"), ("regrets", "a 3 kept"),
            ("hold h series quick 0-01-01", "b c"), ("regrets", "a 3 kept, b 3 held, c 1 held"),
            ("lift h 0-01-01", "ok"), ("regrets", "a 3 kept"), ("move a quick 0-01-12", "ok"), ("regrets", "none"),
        )

    def test_runs_of_many_figures_are_numbered_as_they_come(self):
        desk = Desk(BOOK)
        for number in range(11):
            desk.say("run 0-01-01")
        desk.say("put r quick 0-01-01")
        self.talk(desk, ("run 0-01-01", "r 0-01-01"), ("why r", "run 12 quick quick put 0-01-01 0y"),
                  ("hold h record r 0-01-01", "r"), ("regrets", "r 12 held"))


class NoRowTest(DeskTest):
    def told(self):
        return desk_told(["put s quick 0-01-01", "run 0-01-01", "put r mail 0-01-05", "deed r closed 0-01-06",
                          "hold g record s 0-01-01"])

    def test_texts_that_are_none(self):
        self.refused(self.told(), NoRow, "", " ", "  ", "\n", "r", "none", "ok", "-", "0-01-01", "rows", "gone", "tell", "regret",
                     "not gone", "series m never", "# put t mail 0-01-05", "put", "move", "deed", "hold", "lift", "run", "ask", "why")

    def test_too_few_and_too_many_words(self):
        desk = self.told()
        for text in ROWS + ASKS:
            words = text.split(" ")
            for many in range(len(words)):
                self.refused(desk, NoRow, " ".join(words[:many]))
            for word in ["r", "0-01-01", "all", "record", "1"]:
                self.refused(desk, NoRow, text + " " + word)
                for place in range(len(words)):
                    self.refused(desk, NoRow, " ".join(words[:place] + [word] + words[place:]))

    def test_blanks_at_an_end_or_beside_one_another(self):
        desk = self.told()
        for text in ROWS + ASKS:
            self.refused(desk, NoRow, " " + text, text + " ", "  " + text, text + "  ", " " + text + " ")
            if " " in text:
                self.refused(desk, NoRow, text.replace(" ", "  "), text.replace(" ", "  ", 1), text.replace(" ", ""))

    def test_line_feeds(self):
        desk = self.told()
        for text in ROWS + ASKS:
            self.refused(desk, NoRow, text + "\n", "\n" + text, text + "\n" + text, text.replace(" ", "\n", 1) + "\n",
                         text.replace(" ", " \n") + "\n")
            for place in range(len(text) + 1):
                self.refused(desk, NoRow, text[:place] + "\n" + text[place:])

    def test_the_first_word(self):
        desk = self.told()
        for text in ROWS + ASKS:
            first, blank, rest = text.partition(" ")
            for word in [first.upper(), first.title(), first + "s", first[:-1], "x", "", first + "-", "series", "record"]:
                self.refused(desk, NoRow, word + blank + rest)

    def test_words_that_are_to_be_names(self):
        desk = self.told()
        wrong = ["", "R", "rR", "a1", "1", "a-b", "a_b", "abcdefghijklm", "0-01-01", "r,", "r.", "~", "r\n", "a" * 1000]
        forms = ["put {} mail 0-01-05", "put t {} 0-01-05", "move {} mail 0-01-05", "move r {} 0-01-05",
                 "deed {} closed 0-01-05", "deed r {} 0-01-05", "hold {} record r 0-01-05", "hold h record {} 0-01-05",
                 "hold {} series mail 0-01-05", "hold h series {} 0-01-05", "lift {} 0-01-05", "ask {} 0-01-05", "why {}"]
        self.refused(desk, NoRow, *[form.replace("{}", word) for form in forms for word in wrong])

    def test_words_that_are_to_be_days(self):
        desk = self.told()
        wrong = ["", "0", "r", "5", "0-1-01", "0-01-1", "0-00-01", "0-13-01", "0-01-00", "0-01-31", "00-01-01", "01-01-01",
                 "-1-01-01", "0-01", "0-01-01-01", "0-01-01x", "x0-01-01", "0_01_01", "0-01-0a", "a-01-01", "+1-01-01",
                 "1" + "0" * 40 + "-01-01", "0-01-01\n", "0--01-01", "0-01-001", "9" * 5000 + "-01-01", "1.0-01-01"]
        forms = ["put t mail {}", "move r mail {}", "deed r closed {}", "hold h record r {}", "hold h series mail {}",
                 "lift h {}", "run {}", "ask r {}"]
        self.refused(desk, NoRow, *[form.replace("{}", word) for form in forms for word in wrong])

    def test_words_that_are_to_be_written(self):
        desk = self.told()
        wrong = ["", "records", "Record", "serie", "SERIES", "hold", "r", "mail", "SERIESS", "RECORD", "under", "1"]
        self.refused(desk, NoRow, *[f"hold h {word} mail 0-01-05" for word in wrong])

    def test_the_names_that_stand_in_the_document_for_others(self):
        self.refused(self.told(), NoRow, "put RECORD SERIES DAY", "why RECORD", "run DAY", "lift HOLD DAY", "deed RECORD KIND DAY",
                     "hold HOLD record RECORD DAY", "move RECORD SERIES 0-01-01")

    def test_words_in_another_order(self):
        desk = self.told()
        for text in ROWS + ["ask r 0-02-01"]:
            words = text.split(" ")
            for order in itertools.permutations(words):
                if order[-1] != words[-1] or order[0] != words[0]:
                    self.refused(desk, NoRow, " ".join(order))

    def test_ahead_of_the_houses_refusals(self):
        desk = self.told()
        desk.say("run 0-01-02")
        self.refused(desk, PutTwice, "put r mail 0-01-05")
        self.refused(desk, NoRow, "put r mail 0-01-31", "put r Mail 0-01-05", "put r mail 0-01-05 ", "put r nowhere 0-1-05")
        self.refused(desk, HeldTwice, "hold g series mail 0-01-05")
        self.refused(desk, NoRow, "hold g series mail 0-01-31", "hold g sort mail 0-01-05", "hold g series nowhere1 0-01-05")
        self.refused(desk, NoSeries, "put t nowhere 0-01-05")
        self.refused(desk, NoRow, "put t nowhere 0-01-31", "put 1t nowhere 0-01-05", "move r nowhere 0-13-05")
        self.refused(desk, RunBack, "run 0-01-01")
        self.refused(desk, NoRow, "run 0-01-00", "run 0-01-01 ", " run 0-01-01")

    def test_long_texts(self):
        desk = self.told()
        self.refused(desk, NoRow, "a" * 100000, " " * 100000, "\n" * 100000, "put " * 25000, "0" * 100000, "-" * 100000,
                     "why " + "r" * 99996, "run " + "9" * 99996, "run " + "-" * 99996, "regrets " * 12500,
                     "put r mail " + "1-" * 40000, "".join(chr(32 + place % 95) for place in range(100000)).replace("%", "a"))


class RefusedTest(DeskTest):
    def told(self):
        return desk_told(["put s quick 0-01-01", "run 0-01-09", "put r mail 0-01-05", "deed r closed 0-01-06",
                          "hold g record r 0-01-01", "hold h series quick 0-01-01"])

    def test_the_houses_refusals(self):
        desk = self.told()
        self.refused(desk, PutTwice, "put r mail 0-01-05", "put r quick 0-01-01", "put s loose 0-01-01", "put r nowhere 0-01-01")
        self.refused(desk, HeldTwice, "hold g record r 0-01-01", "hold h record r 0-01-01", "hold g series nowhere 0-01-01")
        self.refused(desk, NoSeries, "put t nowhere 0-01-01", "move r nowhere 0-01-01", "hold f series nowhere 0-01-01",
                     "hold f series r 0-01-01", "put t r 0-01-01")
        self.refused(desk, RunBack, "run 0-01-08", "run 0-01-01")

    def test_what_was_refused_counts_for_nothing_later(self):
        desk = self.told()
        self.refused(desk, RunBack, "run 0-01-08")
        self.refused(desk, NoRow, "run 0-01-31", "put t quick 0-01-1", "hold f record r 0-01-0")
        self.refused(desk, NoSeries, "put t nowhere 0-01-01", "hold f series nowhere 0-01-01")
        self.talk(desk, ("put t quick 0-01-01", "ok"), ("hold f record r 0-01-01", "ok"), ("lift h 0-01-09", "ok"),
                  ("run 0-01-09", "t 0-01-01"), ("why t", "run 2 quick quick put 0-01-01 0y"))


def some_text(chance, now):
    """Runs are mostly on the day that it is now, so that few of them are refused."""
    def day():
        return day_shown(chance.randrange(30))
    name = chance.choice(["r", "s", "t", "u", "record", "series"])
    hold = chance.choice(["h", "g", "r", "series"])
    series = chance.choice(["all", "mail", "bills", "foreign", "loose", "quick", "record", "series", "nowhere"])
    kind = chance.choice(["closed", "paid", "put"])
    return chance.choice([
        f"put {name} {series} {day()}", f"put {name} {series} {day()}", f"move {name} {series} {day()}",
        f"deed {name} {kind} {day()}", f"deed {name} {kind} {day()}", f"hold {hold} record {name} {day()}",
        f"hold {hold} series {series} {day()}", f"lift {hold} {day()}", f"run {day_shown(now)}", f"ask {name} {day()}",
        f"why {name}", "regrets", f"put {name} {day()}", f"run {name}", f"hold {hold} {series} {name} {day()}",
        f"run {day_shown(max(0, now - chance.randrange(4)))}",
    ])


class PlainDesk:
    """What a desk is to answer, with words read by hand for texts such as some_text makes."""

    def __init__(self, book):
        self.book, self.house, self.why = book, House(book), {}

    def say(self, text):
        words = text.split(" ")
        last = words[-1].split("-")
        if len(last) == 3:
            words[-1] = int(last[0]) * 360 + int(last[1]) * 30 + int(last[2]) - 31
        many = {"put": 4, "move": 4, "deed": 4, "hold": 5, "lift": 3, "run": 2, "ask": 3, "why": 2, "regrets": 1}
        if len(words) != many[words[0]] or (words[0] == "run" and len(last) != 3):
            raise NoRow()
        if words[0] == "hold" and words[2] not in ("record", "series"):
            raise NoRow()
        if words[0] == "run":
            answer = self.house.run(words[1])
            for record, series, owner, due, (kind, day, length) in answer:
                number = self.house.gone()[record][0]
                self.why[record] = f"run {number} {series} {owner} {kind} {day_shown(day)} {length_shown(length)}"
            return ", ".join(f"{told[0]} {day_shown(told[3])}" for told in answer) or "none"
        if words[0] == "ask":
            return judged(self.book, self.house.rows(), words[1], words[2])[0]
        if words[0] == "why":
            return self.why.get(words[1], "not gone")
        if words[0] == "regrets":
            return ", ".join("{} {} {}".format(*told) for told in self.house.regrets()) or "none"
        return " ".join(self.house.tell(tuple(words))) or "ok"


def answer_of(desk, text):
    try:
        return desk.say(text)
    except HallError as error:
        return type(error)


class ChanceTest(DeskTest):
    def test_talks_of_chance(self):
        chance = random.Random(26)
        seen = set()
        for attempt in range(300):
            desk, plain = Desk(SHORT_BOOK), PlainDesk(SHORT_BOOK)
            first = [f"put {name} {series} 0-01-01" for name, series in zip("rstu", ["quick", "mail", "foreign", "record"])]
            for text in first + [some_text(chance, place // 2) for place in range(50)]:
                found = answer_of(desk, text)
                self.assertEqual(found, answer_of(plain, text), text)
                seen.add(found if isinstance(found, type) else (text.split(" ")[0], found.split(" ")[0] in ("none", "not", "ok")))
        self.assertLessEqual({NoRow, PutTwice, HeldTwice, NoSeries, RunBack}, seen)
        for word in ["run", "why", "regrets", "deed", "hold", "move"]:
            self.assertLessEqual({(word, True), (word, False)}, seen)


class OwnTest(DeskTest):
    def test_two_desks_beside_one_another(self):
        one, other = Desk(BOOK), Desk(BOOK)
        self.talk(one, ("put r quick 0-01-01", "ok"), ("run 0-01-05", "r 0-01-01"))
        self.talk(other, ("why r", "not gone"), ("ask r 0-01-05", "absent"), ("put r loose 0-01-01", "ok"),
                  ("run 0-01-01", "none"), ("hold h record r 0-01-01", "ok"), ("regrets", "none"))
        self.talk(one, ("hold h record r 0-01-01", "r"), ("regrets", "r 1 held"),
                  ("why r", "run 1 quick quick put 0-01-01 0y"))
        self.talk(other, ("regrets", "none"), ("why r", "not gone"))

    def test_the_book_is_changed_behind_the_call(self):
        book = list(BOOK)
        desk = Desk(book)
        self.assertEqual(book, BOOK)
        del book[:]
        self.talk(desk, ("put r foreign 0-01-01", "ok"), ("deed r paid 0-01-01", "ok"), ("ask r 0-03-01", "due"))
        book.append(("foreign", None, never()))
        book.append(("new", None, never()))
        self.talk(desk, ("ask r 0-03-01", "due"), ("run 0-03-01", "r 0-03-01"),
                  ("why r", "run 1 foreign bills paid 0-01-01 2m"))
        self.refused(desk, NoSeries, "put t new 0-01-01")
        self.assertEqual(len(book), 2)


class SizeTest(DeskTest):
    def test_a_thousand_rows(self):
        names = [one + other for one, other in itertools.product("abcdefghijklmnopqrst", repeat=2)]
        desk = Desk(BOOK)
        for name in names:
            self.talk(desk, (f"put {name} quick 0-01-01", "ok"))
        self.talk(desk, ("run 0-01-02", ", ".join(f"{name} 0-01-01" for name in names)))
        for name in names:
            self.talk(desk, (f"move {name} loose 0-01-02", name))
        self.talk(desk, ("regrets", ", ".join(f"{name} 1 kept" for name in names)))
        for name in names[:100]:
            self.talk(desk, (f"hold {name} series loose 0-01-02", "ok"), (f"move {name} quick 0-01-02", "ok"))
        self.talk(desk, ("regrets", ", ".join(f"{name} 1 kept" for name in names[100:])), ("ask tt 0-01-02", "kept"),
                  ("why tt", "run 1 quick quick put 0-01-01 0y"))


if __name__ == "__main__":
    unittest.main()
