"""The desk: a house that is told rows as texts and answers with texts."""

from disposehall.days import day_read, day_shown, is_day, is_name, length_shown
from disposehall.errors import NoRow
from disposehall.house import House
from disposehall.judging import judged

# Words in small letters are written as they stand; the others are filled in,
# DAY with a day, each other one with a name.
FORMS = (
    ("put", "RECORD", "SERIES", "DAY"),
    ("move", "RECORD", "SERIES", "DAY"),
    ("deed", "RECORD", "KIND", "DAY"),
    ("hold", "HOLD", "record", "RECORD", "DAY"),
    ("hold", "HOLD", "series", "SERIES", "DAY"),
    ("lift", "HOLD", "DAY"),
    ("run", "DAY"),
    ("ask", "RECORD", "DAY"),
    ("why", "RECORD"),
    ("regrets",),
)


class Desk:
    def __init__(self, book):
        self.book = list(book)
        self.house = House(book)
        # What a run told of each gone record: later rows don't change it.
        self.leavings = {}

    def say(self, text):
        said = said_read(text)
        if said[0] == "run":
            return self.run_answered(said[1])
        if said[0] == "ask":
            return judged(self.book, self.house.rows(), said[1], said[2])[0]
        if said[0] == "why":
            return self.why_answered(said[1])
        if said[0] == "regrets":
            return listed([regret_shown(regret) for regret in self.house.regrets()])
        # What is left is a row, with its values as the house takes them.
        regretted = self.house.tell(said)
        return " ".join(regretted) if len(regretted) > 0 else "ok"

    def run_answered(self, day):
        leaving = self.house.run(day)
        for told in leaving:
            self.leavings[told[0]] = told
        return listed([leaving_shown(told) for told in leaving])

    def why_answered(self, record):
        if record not in self.leavings:
            return "not gone"
        told = self.leavings[record]
        cause = told[4]
        number = str(self.house.gone()[record][0])
        return " ".join(["run", number, told[1], told[2], cause[0], day_shown(cause[1]), length_shown(cause[2])])


def said_read(text):
    words = text.split(" ")
    for form in FORMS:
        if fits(words, form):
            return tuple([day_read(word) if slot == "DAY" else word for word, slot in zip(words, form)])
    raise NoRow(f"{text!r} is no row")


def fits(words, form):
    return len(words) == len(form) and all([fills(word, slot) for word, slot in zip(words, form)])


def fills(word, slot):
    if slot == "DAY":
        return is_day(word.split("-"))
    if slot.isupper():
        return is_name(word)
    return word == slot


def leaving_shown(told):
    return " ".join([told[0], day_shown(told[3])])


def regret_shown(regret):
    return " ".join([regret[0], str(regret[1]), regret[2]])


def listed(texts):
    return ", ".join(texts) if len(texts) > 0 else "none"
