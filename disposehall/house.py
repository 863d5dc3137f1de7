"""The house: it is told rows, disposes by runs of what is due, and tells what it regrets."""

from disposehall.errors import HeldTwice, NoSeries, PutTwice, RunBack
from disposehall.judging import counted, is_put, judged, reason, standing


class House:
    # The rows of each record and those of holds and lifts are kept apart, too:
    # a record is judged by these alone, rows of other records change nothing.
    def __init__(self, book):
        self.book = list(book)
        self.told = []
        self.own = {}
        self.holdings = []
        self.run_days = []
        self.taken = {}
        # The word by which each gone record is judged on its run's day by now.
        self.words = {}

    def tell(self, row):
        self.refuse_row(row)
        self.keep_row(tuple(row))
        found = self.words_now(self.touched_by(row))
        fresh = []
        for record, word in found:
            if self.words[record] == "due" and word != "due":
                fresh.append(record)
            self.words[record] = word
        return sorted(fresh)

    def refuse_row(self, row):
        name = row[1]
        if row[0] == "put" and is_put(self.own.get(name, []), name):
            raise PutTwice(f"the record {name} is put already")
        if row[0] == "hold" and is_laid(self.holdings, name):
            raise HeldTwice(f"the hold {name} is laid already")
        for series in series_named(row):
            if series not in [known[0] for known in self.book]:
                raise NoSeries(f"the book has no series {series}")

    def keep_row(self, row):
        self.told.append(row)
        if row[0] in ("hold", "lift"):
            self.holdings.append(row)
        else:
            self.own.setdefault(row[1], []).append(row)

    # A hold makes held what is due, a lift makes due what is held; neither
    # changes another word. Any other row changes that of its own record alone.
    def touched_by(self, row):
        if row[0] == "hold":
            return [record for record, word in self.words.items() if word == "due"]
        if row[0] == "lift":
            return [record for record, word in self.words.items() if word == "held"]
        return [record for record in [row[1]] if record in self.words]

    def words_now(self, records):
        found = []
        stays = {}
        for record in records:
            day = self.taken[record][1]
            # Many records are gone by one run: its holds are looked up once.
            if day not in stays:
                stays[day] = standing(counted(self.holdings, day))
            rows = self.own[record] + stays[day]
            found.append((record, judged(self.book, rows, record, day)[0]))
        return found

    def run(self, day):
        if len(self.run_days) > 0 and day < self.run_days[-1]:
            raise RunBack("an earlier run was on a later day")
        self.run_days.append(day)
        leaving = self.due_on(day)
        for told in leaving:
            self.taken[told[0]] = (len(self.run_days), day)
            self.words[told[0]] = "due"
        return leaving

    def due_on(self, day):
        found = []
        stays = standing(counted(self.holdings, day))
        for record in sorted([name for name in self.own if name not in self.taken]):
            rows = self.own[record] + stays
            told = judged(self.book, rows, record, day)
            if told[0] == "due":
                found.append((record, told[1], told[2], told[3], reason(self.book, rows, record, day)))
        return found

    def regrets(self):
        return sorted([(record, self.taken[record][0], word) for record, word in self.words.items() if word != "due"])

    def rows(self):
        return list(self.told)

    def gone(self):
        return dict(self.taken)


def is_laid(rows, hold):
    return any([row[0] == "hold" and row[1] == hold for row in rows])


# A list of the one series that the row is of, or of none.
def series_named(row):
    if row[0] in ("put", "move"):
        return [row[2]]
    if row[0] == "hold" and row[2] == "series":
        return [row[3]]
    return []
