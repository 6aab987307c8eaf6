"""Dues: what is due of days, by a book of sheets and a person.

A book is a dict from ranks to courses of sheets, a person a pair of courses:
of ranks, and of the hours that each day has.
"""

from paymill.errors import NoAmount, NoStretch
from paymill.lines import y_at
from paymill.parts import NOUGHT, less, part, plus, summed, times
from paymill.sheets import lines_by_rest, odd_between
from paymill.tellings import pieces, value_on


def due_on(book, person, day):
    """What is due of a day."""
    ranks, hours = person
    rank, many = value_on(ranks, day), value_on(hours, day)
    sheet = None if rank is None else value_on(book.get(rank, ()), day)
    if sheet is None or many is None:
        return NOUGHT
    return sheet.pays(day, many)


def due_between(book, person, one, other):
    """What is due of all days from one on, ahead of other."""
    dues = [sheet_due(sheet, hours, begin, end)
            for begin, end, sheet, hours in terms(book, person, one, other)]
    return summed(dues)


def terms(book, person, one, other):
    """Quadruples (begin, end, sheet, hours) of the days that have both."""
    ranks, hours = person
    found = []
    for begin, end, sheet in _sheet_pieces(book, ranks, one, other):
        for start, stop, many in pieces(hours, begin, end):
            if sheet is None or many is None:
                continue
            if found and found[-1][1] == start and found[-1][2:] == (sheet, many):
                start = found.pop()[0]
            found.append((start, stop, sheet, many))
    return tuple(found)


def sheet_due(sheet, hours, one, other):
    """What a sheet pays on all days from one on, ahead of other, at so many hours."""
    if hours[0] < 0:
        raise NoAmount("hours are nought or more")
    if other < one:
        raise NoStretch("a stretch ends no earlier than it begins")
    dues = [times(part(many), y_at(line, hours))
            for line, many in lines_by_rest(sheet, one, other)]
    total = summed(dues)
    for day, line in odd_between(sheet, one, other):
        plain = y_at(sheet.rows[day % len(sheet)], hours)
        total = plus(total, less(y_at(line, hours), plain))
    return total


def _sheet_pieces(book, ranks, one, other):
    """Triples (begin, end, sheet), one behind the other; None where there is no sheet."""
    found = []
    for begin, end, rank in pieces(ranks, one, other):
        course = () if rank is None else book.get(rank, ())
        found.extend(pieces(course, begin, end))
    return found
