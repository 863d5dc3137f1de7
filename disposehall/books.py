"""Books of series: which term a series has, of its own or from its elders."""

from disposehall.clauses import least
from disposehall.days import is_name
from disposehall.errors import NoBook, NoTerm, TooWide
from disposehall.terms import term_read


def book_read(text):
    book = []
    ahead = {}
    # Split, a text without signs would be one row that cannot stand.
    if text == "":
        return book
    for number, row in enumerate(text.split("\n"), start=1):
        series = series_read(row, number, ahead)
        ahead[series[0]] = True
        book.append(series)
    return book


# No term begins with the word `under`, so the third word tells the forms apart.
def series_read(row, number, ahead):
    words = row.split(" ")
    if len(words) < 3 or words[0] != "series":
        raise NoBook(number)
    if not is_name(words[1]) or words[1] in ahead:
        raise NoBook(number)
    if words[2] != "under":
        return (words[1], None, series_term(words[2:], number))
    if len(words) < 4 or words[3] not in ahead:
        raise NoBook(number)
    if len(words) == 4:
        return (words[1], words[3], None)
    return (words[1], words[3], series_term(words[4:], number))


def series_term(words, number):
    try:
        term = term_read(" ".join(words))
        # Asked only for its refusal: a book holds no term that is too wide.
        least(term)
    except (NoTerm, TooWide):
        raise NoBook(number) from None
    return term


def book_shown(book):
    return "\n".join([series_shown(series) for series in book])


def series_shown(series):
    words = ["series", series[0]]
    if series[1] is not None:
        words.extend(["under", series[1]])
    if series[2] is not None:
        words.append(series[2].shown())
    return " ".join(words)


# An elder stands ahead in the book, so one walk from the end meets the whole line.
def line_of(book, name):
    line = []
    wanted = name
    for series in reversed(book):
        if series[0] == wanted:
            line.append(wanted)
            wanted = series[1]
    return line


def owner_of(book, name):
    return owning_series(book, name)[0]


def term_of(book, name):
    return owning_series(book, name)[2]


# As in line_of; the eldest of a line has a term, so the walk ends at one.
def owning_series(book, name):
    wanted = name
    for series in reversed(book):
        if series[0] == wanted and series[2] is not None:
            return series
        if series[0] == wanted:
            wanted = series[1]
