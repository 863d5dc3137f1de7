"""Days, lengths and names: how they are read and shown."""

from disposehall.errors import NoDay, NoLength

YEAR_DAYS = 360
MONTH_DAYS = 30
YEAR_MONTHS = 12
MOST_FIGURES = 40
MOST_LETTERS = 12
FIGURES = "0123456789"
LETTERS = "abcdefghijklmnopqrstuvwxyz"


def is_made_of(text, signs):
    return all([sign in signs for sign in text])


# Python's own int takes blanks, line feeds and signs that are no figures, so
# the text is looked at ahead of it.
def is_number(text):
    if len(text) == 0 or len(text) > MOST_FIGURES:
        return False
    if text[0] == "0" and text != "0":
        return False
    return is_made_of(text, FIGURES)


def is_two_figures(text, most):
    if len(text) != 2 or not is_made_of(text, FIGURES):
        return False
    return int(text) >= 1 and int(text) <= most


def is_day(parts):
    if len(parts) != 3:
        return False
    if not is_number(parts[0]):
        return False
    return is_two_figures(parts[1], YEAR_MONTHS) and is_two_figures(parts[2], MONTH_DAYS)


def day_read(text):
    parts = text.split("-")
    if not is_day(parts):
        raise NoDay(f"{text!r} is no day")
    # Months and days of a month are counted from 1, days of the hall from 0.
    whole_months = int(parts[0]) * YEAR_MONTHS + int(parts[1]) - 1
    return whole_months * MONTH_DAYS + int(parts[2]) - 1


def day_shown(day):
    year = str(day // YEAR_DAYS)
    month = str(day % YEAR_DAYS // MONTH_DAYS + 1).zfill(2)
    day_of_month = str(day % MONTH_DAYS + 1).zfill(2)
    return f"{year}-{month}-{day_of_month}"


# None where the letter is none of the three.
def days_of_letter(letter):
    if letter == "y":
        return YEAR_DAYS
    if letter == "m":
        return MONTH_DAYS
    if letter == "d":
        return 1
    return None


def length_read(text):
    number = text[:-1]
    unit = days_of_letter(text[-1:])
    if unit is None or not is_number(number):
        raise NoLength(f"{text!r} is no length")
    return int(number) * unit


def length_shown(days):
    if days % YEAR_DAYS == 0:
        return str(days // YEAR_DAYS) + "y"
    if days % MONTH_DAYS == 0:
        return str(days // MONTH_DAYS) + "m"
    return str(days) + "d"


def is_name(text):
    if len(text) == 0 or len(text) > MOST_LETTERS:
        return False
    return is_made_of(text, LETTERS)
