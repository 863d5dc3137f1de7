"""Days foretold: when records come due, if nothing more is told."""

from disposehall.books import line_of
from disposehall.judging import is_laid_on, judged


def foretold(book, rows, day):
    found = []
    for record in [row[1] for row in rows if row[0] == "put"]:
        first = first_due(book, rows, record, day)
        if first is not None:
            found.append((first, record))
    return sorted(found)


# From each of these starts to the next one, the same rows of the record count:
# its series and its due day stay as they are, and only holds come and go.
def first_due(book, rows, record, day):
    own = [row for row in rows if row[0] in ("put", "move", "deed") and row[1] == record]
    starts = sorted([day] + [row[3] for row in own if row[3] > day])
    for start, end in zip(starts, starts[1:] + [None]):
        told = judged(book, own, record, start)
        if told[3] is not None:
            spans = spans_on(rows, record, line_of(book, told[1]))
            first = free_from(max(start, told[3]), spans)
            if first is not None and (end is None or first < end):
                return first
    return None


# Of each hold that is laid on the record or the line: the day from which on it
# counts, and its first lift's day, or None.
def spans_on(rows, record, line):
    lifts = {}
    for row in rows:
        if row[0] == "lift":
            lifts[row[1]] = min(row[2], lifts.get(row[1], row[2]))
    return [(row[4], lifts.get(row[1])) for row in rows if row[0] == "hold" and is_laid_on(row, record, line)]


# The first day from this one on that is in no span, or None. Walked by their
# beginnings, a span that is passed by has ended by then, or all behind it begin
# later still: so none of them has to be looked at twice.
def free_from(day, spans):
    free = day
    for laid, lifted in sorted(spans, key=beginning):
        if laid <= free and lifted is None:
            return None
        if laid <= free and lifted > free:
            free = lifted
    return free


def beginning(span):
    return span[0]
