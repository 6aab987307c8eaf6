"""Tellings: values told of stretches of days, the later one ahead of the others.

A course is a row of pairs (day, value): from a day on the value, or None for
nothing, ahead of the next pair's day.
"""

from paymill.errors import NoNumber, NoStretch, NoTelling
from paymill.parts import is_whole
from paymill.rising import pairs_below


def is_telling(thing):
    """Whether anything is a telling."""
    if not (type(thing) is tuple and len(thing) == 3 and is_whole(thing[0])):
        return False
    begin, end, value = thing
    if end is not None and not (is_whole(end) and begin < end):
        return False
    return value is not None


def is_course(thing):
    """Whether anything is a course."""
    if not (type(thing) is tuple and all([_is_dated(pair) for pair in thing])):
        return False
    if not all([thing[at][0] < thing[at + 1][0] for at in range(len(thing) - 1)]):
        return False
    return len(_changes(thing)) == len(thing)


def course_of(tellings, *, without=()):
    """The course of tellings, but for those that are withdrawn."""
    standing = _standing(tellings, without)
    days = [told[0] for _, told in standing]
    days.extend([told[1] for _, told in standing if told[1] is not None])
    held = []
    for day in sorted(set(days)):
        holder = _holder_among(standing, day)
        held.append((day, None if holder is None else tellings[holder][2]))
    return _changes(held)


def holder_on(tellings, day, *, without=()):
    """The number of the telling that holds of a day; None where none does."""
    return _holder_among(_standing(tellings, without), day)


def value_on(course, day):
    """The value of a day; None where there is nothing."""
    at = pairs_below(course, day + 1)
    return None if at == 0 else course[at - 1][1]


def pieces(course, one, other):
    """Triples (begin, end, value), one behind the other from one to other."""
    if other < one:
        raise NoStretch("a stretch ends no earlier than it begins")
    if other == one:
        return ()
    inner = course[pairs_below(course, one + 1):pairs_below(course, other)]
    starts = [(one, value_on(course, one)), *inner]
    ends = [day for day, _ in inner] + [other]
    return tuple([(begin, end, value) for (begin, value), end in zip(starts, ends)])


def unlike_stretches(one, other):
    """Pairs (begin, end) of the days on which two courses are unlike."""
    found = []
    begin = None
    for day in sorted(set([day for day, _ in one + other])):
        if _is_alike(value_on(one, day), value_on(other, day)):
            if begin is not None:
                found.append((begin, day))
            begin = None
        elif begin is None:
            begin = day
    if begin is not None:
        found.append((begin, None))
    return tuple(found)


def _is_dated(thing):
    return type(thing) is tuple and len(thing) == 2 and is_whole(thing[0])


def _is_alike(value, other):
    """Whether two values are alike, or both are nothing."""
    if value is None or other is None:
        return value is None and other is None
    return bool(value == other)


def _changes(pairs):
    """Of a row of pairs (day, value) those with a value unlike that ahead."""
    found = []
    ahead = None
    for day, value in pairs:
        if not _is_alike(value, ahead):
            found.append((day, value))
            ahead = value
    return tuple(found)


def _standing(tellings, without):
    """Pairs (number, telling) of those that aren't withdrawn."""
    for thing in tellings:
        if not is_telling(thing):
            raise NoTelling("this is no telling")
    for number in without:
        if not (is_whole(number) and 0 <= number < len(tellings)):
            raise NoNumber(number)
    gone = set(without)
    return [(number, told) for number, told in enumerate(tellings) if number not in gone]


def _holder_among(standing, day):
    """The greatest number of those that cover a day; None where none does."""
    holder = None
    for number, told in standing:
        begin, end, _ = told
        if begin <= day and (end is None or day < end):
            holder = number
    return holder
