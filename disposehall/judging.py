"""Judging: what is to be done with a record on a day, by the rows that are told."""

from disposehall.books import line_of, owner_of, term_of


def judged(book, rows, record, day):
    counting = counted(rows, day)
    if not is_put(counting, record):
        return ("absent", None, None, None, [])
    series = series_of(counting, record)
    due = term_of(book, series).due(life_of(counting, record))
    holds = holds_on(counting, record, line_of(book, series))
    return (word_for(due, holds, day), series, owner_of(book, series), due, holds)


def reason(book, rows, record, day):
    counting = counted(rows, day)
    if not is_put(counting, record):
        return None
    life = life_of(counting, record)
    term = term_of(book, series_of(counting, record))
    due = term.due(life)
    if due is None:
        return None
    reached = [leaf for leaf in term.leaves() if leaf[0] in life and life[leaf[0]] + leaf[1] == due]
    first = min(reached)
    return (first[0], life[first[0]], first[1])


# The day is the last value of every row.
def counted(rows, day):
    return [row for row in rows if row[-1] <= day]


def is_put(rows, record):
    return any([row[0] == "put" and row[1] == record for row in rows])


# The greatest of tuples (day, series): the latest day, and the last name of that day.
def series_of(rows, record):
    places = [(row[3], row[2]) for row in rows if row[0] in ("put", "move") and row[1] == record]
    return max(places)[1]


def life_of(rows, record):
    life = {}
    for row in rows:
        if row[0] in ("put", "deed") and row[1] == record:
            kind = "put" if row[0] == "put" else row[2]
            life[kind] = max(row[3], life.get(kind, row[3]))
    return life


def holds_on(rows, record, line):
    # A dict, since many holds may be looked up in a long line.
    over = {}
    for name in line:
        over[name] = True
    return sorted([row[1] for row in standing(rows) if is_laid_on(row, record, over)])


# The holds among the rows of which no lift stands among them.
def standing(rows):
    lifted = {}
    for row in rows:
        if row[0] == "lift":
            lifted[row[1]] = True
    return [row for row in rows if row[0] == "hold" and row[1] not in lifted]


# Over a record are the series of its series' line.
def is_laid_on(row, record, over):
    if row[2] == "record":
        return row[3] == record
    return row[3] in over


def word_for(due, holds, day):
    if due is None or due > day:
        return "kept"
    if len(holds) > 0:
        return "held"
    return "due"
