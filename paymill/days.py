"""Days: sets of days without end, that go round by a period but for some."""

from math import lcm

from paymill.errors import NoDays, NoNumber, NoStretch, TooLong
from paymill.parts import figures, is_whole

MOST_PERIOD = 5040
_MOST_TURNED = 60


class Days:
    """The days whose rest by the period is among the marks, but for the turned.

    A turned day is in where by its rest it would be out, and the other way
    about. However it is made, it stands by its least period.
    """

    def __init__(self, period, marks, *, turned=()):
        _refuse_wrong(period, marks, turned)
        pattern = _pattern_of(period, marks)
        # A round first meets itself again where its least period ends.
        self.period = (pattern + pattern).find(pattern, 1)
        self.marks = tuple(sorted([mark for mark in marks if mark < self.period]))
        self.turned = tuple(sorted(turned))

    def has(self, day):
        """Whether a day is among these."""
        return _is_in(self.marks, day % self.period) != _is_in(self.turned, day)

    def __eq__(self, other):
        return (isinstance(other, Days) and self.period == other.period
                and self.marks == other.marks and self.turned == other.turned)

    def __len__(self):
        return len(range(self.period))

    def __str__(self):
        return f"{self.period}:{_row_text(self.marks)}{_turned_text(self.turned)}"

    def __repr__(self):
        return str(self)


def all_days():
    """Each day."""
    return Days(1, (0,))


def no_days():
    """No day."""
    return Days(1, ())


def both(one, other):
    """The days that are in one and in the other."""
    return _joined(one, other, ("11",))


def either(one, other):
    """The days that are in one or the other, or in both."""
    return _joined(one, other, ("11", "10", "01"))


def without(one, other):
    """The days that are in one, but not in the other."""
    return _joined(one, other, ("10",))


def others(days):
    """The days that are not among these."""
    pattern = _pattern(days)
    marks = [rest for rest in range(days.period) if pattern[rest] == "0"]
    return _told(days.period, marks, days.turned)


def moved(days, by):
    """The days that are so many days behind these."""
    marks = [(mark + by) % days.period for mark in days.marks]
    return _told(days.period, marks, [day + by for day in days.turned])


def count_days(days, one, other):
    """How many of the days are from one on, ahead of other."""
    if other < one:
        raise NoStretch("a stretch ends no earlier than it begins")
    many = _regular_below(days, other) - _regular_below(days, one)
    for turn in _from_on(days.turned, one):
        if turn < other:
            many = many + (1 if days.has(turn) else -1)
    return many


def nth_day(days, begin, *, at=0):
    """The at-th of the days from begin on; None where there are not so many."""
    if at < 0:
        raise NoNumber(at)
    for turn in _from_on(days.turned, begin):
        many = _regular_below(days, turn) - _regular_below(days, begin)
        if at < many:
            return _regular_day(days, _regular_below(days, begin) + at)
        at = at - many
        if days.has(turn):
            if at == 0:
                return turn
            at = at - 1
        begin = turn + 1
    return _regular_day(days, _regular_below(days, begin) + at)


def last_day(days, ahead):
    """The last of the days ahead of a day; None where there is none."""
    for turn in days.turned[:_many_below(days.turned, ahead)][::-1]:
        day = _regular_day(days, _regular_below(days, ahead) - 1)
        if day is not None and day > turn:
            return day
        if days.has(turn):
            return turn
        ahead = turn
    return _regular_day(days, _regular_below(days, ahead) - 1)


def unlike_day(one, other, begin):
    """The least day from begin on that is in just one of two; None where none is."""
    first, second = _pattern(one), _pattern(other)
    for turn in _from_on(sorted(set(one.turned + other.turned)), begin):
        day = _unlike_by_patterns(first, second, begin)
        if day is not None and day < turn:
            return day
        if one.has(turn) != other.has(turn):
            return turn
        begin = turn + 1
    return _unlike_by_patterns(first, second, begin)


def pay_period(days, day):
    """From the last of the days no later than a day to the next one behind it."""
    begin = last_day(days, day + 1)
    end = nth_day(days, day + 1)
    if begin is None or end is None:
        return None
    return (begin, end)


def _refuse_wrong(period, marks, turned):
    """Refuse what makes no Days."""
    if not (is_whole(period) and 1 <= period <= MOST_PERIOD):
        raise NoDays("a period is a whole number from 1 to MOST_PERIOD")
    if not _is_unlike_row(marks):
        raise NoDays("marks are a row of unlike whole numbers")
    if not all([0 <= mark < period for mark in marks]):
        raise NoDays("marks are from 0 to below the period")
    if not _is_unlike_row(turned):
        raise NoDays("turned days are a row of unlike whole numbers")
    if len(turned) > _MOST_TURNED:
        raise NoDays("turned days are too many to be handed in")


def _is_unlike_row(thing):
    """Whether anything is a row of whole numbers, none twice."""
    if type(thing) not in (tuple, list):
        return False
    return all([is_whole(one) for one in thing]) and len(set(thing)) == len(thing)


def _pattern_of(period, marks):
    """A sign for each rest by the period: 1 where it is marked, else 0."""
    signs = ["0"] * period
    for mark in marks:
        signs[mark] = "1"
    return "".join(signs)


def _pattern(days):
    return _pattern_of(days.period, days.marks)


def _row_text(row):
    return ",".join([figures(number) for number in row])


def _turned_text(turned):
    if len(turned) == 0:
        return ""
    return f";{_row_text(turned)}"


def _many_below(row, number):
    """How many of a rising row are below a number."""
    low, high = 0, len(row)
    while low < high:
        middle = (low + high) // 2
        if row[middle] < number:
            low = middle + 1
        else:
            high = middle
    return low


def _is_in(row, number):
    """Whether a number is in a rising row."""
    at = _many_below(row, number)
    return at < len(row) and row[at] == number


def _from_on(row, number):
    """Those of a rising row that are not below a number."""
    return row[_many_below(row, number):]


def _told(period, marks, turned):
    """Days with these turned ones, however many: only those handed in are few."""
    days = Days(period, marks)
    days.turned = tuple(sorted(turned))
    return days


def _joined(one, other, kept):
    """The days whose two signs, as by one and as by the other, are kept."""
    many = lcm(one.period, other.period)
    if many > MOST_PERIOD:
        raise TooLong(many)
    first = _pattern(one) * (many // one.period)
    second = _pattern(other) * (many // other.period)
    marked = [first[rest] + second[rest] in kept for rest in range(many)]
    turned = []
    for day in sorted(set(one.turned + other.turned)):
        signs = _sign(one.has(day)) + _sign(other.has(day))
        if (signs in kept) != marked[day % many]:
            turned.append(day)
    return _told(many, [rest for rest in range(many) if marked[rest]], turned)


def _sign(is_in):
    return "1" if is_in else "0"


def _regular_below(days, day):
    """How many days ahead of a day are in by their rest, counted from day 0 on.

    Below day 0 the number is below 0; so it is the number of the first such
    day from this one on.
    """
    rounds, rest = divmod(day, days.period)
    return rounds * len(days.marks) + _many_below(days.marks, rest)


def _regular_day(days, number):
    """The day of this number among those that are in by their rest, if any are."""
    if len(days.marks) == 0:
        return None
    rounds, at = divmod(number, len(days.marks))
    return rounds * days.period + days.marks[at]


def _unlike_by_patterns(first, second, begin):
    """The least day from begin on where two patterns, going round, are unlike."""
    # Two that go round are alike for ever where they are for as many days
    # as both their periods together.
    many = len(first) + len(second)
    row, other_row = _cut_out(first, begin, many), _cut_out(second, begin, many)
    if row == other_row:
        return None
    low, high = 0, many
    while high - low > 1:
        middle = (low + high) // 2
        if row[low:middle] == other_row[low:middle]:
            low = middle
        else:
            high = middle
    return begin + low


def _cut_out(pattern, begin, many):
    """The signs of so many days from begin on, by a pattern that goes round."""
    start = begin % len(pattern)
    return (pattern * ((start + many) // len(pattern) + 1))[start:start + many]
