"""Promises 5, 6 and 7: days, lengths, names."""

import re
import unittest

from disposehall.days import day_read, day_shown, is_name, length_read, length_shown
from disposehall.errors import NoDay, NoLength

# Every sign of which a text may be made.
SIGNS = [chr(code) for code in range(ord(" "), ord("~") + 1) if chr(code) != "%"] + ["\n"]
NUMBER = "(0|[1-9][0-9]{0,39})"
DAY = re.compile(NUMBER + "-(0[1-9]|1[0-2])-(0[1-9]|[12][0-9]|30)")
LENGTH = re.compile(NUMBER + "([ymd])")


def one_sign_off(text):
    """Every text that comes of one by a sign put in, taken out or put in another's place."""
    found = []
    for at in range(len(text) + 1):
        for sign in SIGNS:
            found.append(text[:at] + sign + text[at:])
            if at < len(text):
                found.append(text[:at] + sign + text[at + 1:])
        if at < len(text):
            found.append(text[:at] + text[at + 1:])
    return found


class Refusals(unittest.TestCase):
    def refused(self, error, read, text):
        with self.subTest(text=text):
            with self.assertRaises(ValueError) as caught:
                read(text)
            self.assertIs(type(caught.exception), error)


class DaysTest(Refusals):
    def both_ways(self, text, day):
        with self.subTest(text=text):
            self.assertEqual(day_read(text), day)
            self.assertIs(type(day_read(text)), int)
            self.assertEqual(day_shown(day), text)

    def no_day(self, text):
        self.refused(NoDay, day_read, text)

    def test_known_days(self):
        self.both_ways("0-01-01", 0)
        self.both_ways("0-01-02", 1)
        self.both_ways("0-01-30", 29)
        self.both_ways("0-02-01", 30)
        self.both_ways("0-09-10", 249)
        self.both_ways("0-10-09", 278)
        self.both_ways("0-12-30", 359)
        self.both_ways("1-01-01", 360)
        self.both_ways("9-12-30", 3599)
        self.both_ways("10-01-01", 3600)
        self.both_ways("1999-12-30", 719999)
        self.both_ways("2000-01-01", 720000)

    def test_days_of_some_years_stand_one_behind_the_other(self):
        texts = [
            f"{year}-{month:02}-{day:02}"
            for year in range(12) for month in range(1, 13) for day in range(1, 31)
        ]
        for day, text in enumerate(texts):
            self.both_ways(text, day)

    def test_years_of_every_number_of_figures(self):
        for figures in range(1, 41):
            self.both_ways("9" * figures + "-12-30", 360 * 10 ** figures - 1)
            if figures > 1:
                self.both_ways("1" + "0" * (figures - 1) + "-01-01", 360 * 10 ** (figures - 1))
            year = ("1234567890" * 4)[:figures]
            self.both_ways(year + "-03-04", 360 * int(year) + 63)

    def test_long_days_are_shown_though_not_read(self):
        self.assertEqual(day_shown(360 * 10 ** 40), "1" + "0" * 40 + "-01-01")
        self.no_day(day_shown(360 * 10 ** 40))
        day = 10 ** 50 - 1
        year, rest = divmod(day, 360)
        self.assertEqual(day_shown(day), f"{year}-{rest // 30 + 1:02}-{rest % 30 + 1:02}")
        self.assertEqual(len(str(year)), 48)

    def test_a_year_of_forty_one_figures(self):
        self.no_day("1" * 41 + "-01-01")
        self.no_day("0" * 41 + "-01-01")
        self.no_day("9" * 5000 + "-01-01")

    def test_noughts_ahead_of_a_year(self):
        for text in ["00-01-01", "01-01-01", "0001-01-01", "02000-01-01", "0" * 40 + "-01-01"]:
            self.no_day(text)

    def test_months_and_days_out_of_bounds(self):
        for number in range(100):
            with_month = f"7-{number:02}-15"
            if 1 <= number <= 12:
                self.both_ways(with_month, 7 * 360 + (number - 1) * 30 + 14)
            else:
                self.no_day(with_month)
            with_day = f"7-08-{number:02}"
            if 1 <= number <= 30:
                self.both_ways(with_day, 7 * 360 + 210 + number - 1)
            else:
                self.no_day(with_day)

    def test_one_or_three_figures(self):
        for text in ["7-1-15", "7-001-15", "7-012-15", "7-08-1", "7-08-001", "7-08-015", "7--15", "7-08-", "-08-15"]:
            self.no_day(text)

    def test_blanks_and_line_feeds(self):
        for blank in [" ", "\n"]:
            for text in ["7-08-15", "2000-12-30"]:
                for at in range(len(text) + 1):
                    self.no_day(text[:at] + blank + text[at:])
        for text in ["7- 8-15", "7-8 -15", "7-08- 5", "7-08-5\n", " ", "\n"]:
            self.no_day(text)

    def test_other_texts(self):
        for text in ["", "-", "--", "---", "7", "7-08", "7-08-15-01", "-7-08-15", "+7-08-15", "1_0-08-15",
                     "7-+8-15", "7-08-+1", "7-1_-15", "7/08/15", "70815", "a-08-15", "7-0a-15", "7-08-1a", "never"]:
            self.no_day(text)

    def test_one_sign_off(self):
        for text in ["0-01-01", "7-12-30", "10-02-09", "1999-10-20"]:
            for other in one_sign_off(text):
                found = DAY.fullmatch(other)
                if found is None:
                    self.no_day(other)
                else:
                    year, month, day = [int(part) for part in found.groups()]
                    self.both_ways(other, year * 360 + month * 30 + day - 31)

    def test_long_texts(self):
        for text in ["-" * 100000, "0" * 100000, "7-08-15" * 14000, "7-" + "0" * 99990 + "-01"]:
            with self.assertRaises(NoDay):
                day_read(text)


class LengthsTest(Refusals):
    def no_length(self, text):
        self.refused(NoLength, length_read, text)

    def test_the_three_letters(self):
        for number in [0, 1, 7, 10, 29, 30, 99, 360, 12345]:
            self.assertEqual(length_read(f"{number}y"), number * 360)
            self.assertEqual(length_read(f"{number}m"), number * 30)
            self.assertEqual(length_read(f"{number}d"), number)
            self.assertIs(type(length_read(f"{number}d")), int)

    def test_known_lengths_shown(self):
        known = [
            (0, "0y"), (1, "1d"), (29, "29d"), (30, "1m"), (31, "31d"), (60, "2m"), (330, "11m"), (359, "359d"),
            (360, "1y"), (361, "361d"), (390, "13m"), (720, "2y"), (3600, "10y"), (3630, "121m"),
        ]
        for days, text in known:
            with self.subTest(days=days):
                self.assertEqual(length_shown(days), text)
                self.assertEqual(length_read(text), days)

    def test_shown_by_the_greatest(self):
        for days in range(2000):
            text = length_shown(days)
            self.assertEqual(length_read(text), days)
            letter = "y" if days % 360 == 0 else "m" if days % 30 == 0 else "d"
            self.assertEqual(text, str(days // {"y": 360, "m": 30, "d": 1}[letter]) + letter)

    def test_numbers_of_every_number_of_figures(self):
        for figures in range(1, 41):
            number = int("7" * figures)
            self.assertEqual(length_read(f"{number}y"), number * 360)
            self.assertEqual(length_read(f"{number}m"), number * 30)
            self.assertEqual(length_read(f"{number}d"), number)
            self.assertEqual(length_shown(number * 360), f"{number}y")
            self.assertEqual(length_shown(number), f"{number}d")

    def test_long_lengths_are_shown_though_not_read(self):
        number = 10 ** 49 + 1
        self.assertEqual(length_shown(number), f"{number}d")
        self.assertEqual(length_shown(number * 30), f"{number}m")
        self.assertEqual(length_shown(10 ** 47 * 360), f"{10 ** 47}y")
        self.assertEqual(length_shown(10 ** 50 - 1), "9" * 50 + "d")
        self.no_length(length_shown(10 ** 50 - 1))

    def test_forty_one_figures(self):
        for letter in "ymd":
            self.no_length("1" * 41 + letter)
            self.no_length("0" * 41 + letter)
            self.no_length("9" * 5000 + letter)

    def test_no_figures_and_noughts_ahead(self):
        for letter in "ymd":
            for number in ["", "00", "01", "007", "0" * 40]:
                self.no_length(number + letter)

    def test_another_letter_none_or_two(self):
        for text in ["0", "7", "30", "7w", "7Y", "7M", "7D", "7yy", "7ym", "7md", "y7", "7y7", "7y7m", "7d7"]:
            self.no_length(text)

    def test_other_texts(self):
        for text in ["", " ", "\n", "-7y", "+7y", "7_0y", "7.0y", "0x7d", "7 y", " 7y", "7y ", "7y\n", "7\ny", "\n7y"]:
            self.no_length(text)

    def test_one_sign_off(self):
        for text in ["0y", "7m", "10d", "360y"]:
            for other in one_sign_off(text):
                found = LENGTH.fullmatch(other)
                if found is None:
                    self.no_length(other)
                else:
                    unit = {"y": 360, "m": 30, "d": 1}[found.group(2)]
                    self.assertEqual(length_read(other), int(found.group(1)) * unit)

    def test_long_texts(self):
        for text in ["0" * 100000, "7" * 99999 + "y", "y" * 100000]:
            with self.assertRaises(NoLength):
                length_read(text)


class NamesTest(unittest.TestCase):
    def test_one_to_twelve_small_letters(self):
        for letter in "abcdefghijklmnopqrstuvwxyz":
            for many in range(1, 13):
                self.assertIs(is_name(letter * many), True)
        for text in ["letters", "abcdefghijkl", "mnopqrstuvwx", "yz", "put", "later", "never"]:
            self.assertIs(is_name(text), True)

    def test_none_and_more_than_twelve(self):
        for text in ["", "a" * 13, "abcdefghijklm", "a" * 100, "a" * 100000]:
            self.assertIs(is_name(text), False)

    def test_another_sign_at_any_place(self):
        others = [sign for sign in SIGNS if not ("a" <= sign <= "z")]
        for text in ["a", "ab", "letters", "abcdefghijk", "abcdefghijkl"]:
            for at in range(len(text) + 1):
                for sign in others:
                    with self.subTest(text=text, at=at, sign=sign):
                        self.assertIs(is_name(text[:at] + sign + text[at:]), False)
                        self.assertIs(is_name(text[:at] + sign + text[at + 1:]), False)


if __name__ == "__main__":
    unittest.main()
