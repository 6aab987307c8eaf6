"""Sheets: a line for each day of a period, and lines of their own for odd days.

Rules are made into sheets by PLANS: triples (lines, numbers, odd) of a row of
lines, the number of its line for each rest, and a dict from odd days to
numbers. So the lines of days alike in all are reckoned once.
"""

from math import lcm

from paymill.days import MOST_PERIOD
from paymill.errors import NoRule, TooLong
from paymill.lines import flat, least_line, most_line, sum_line, times_line, unlike_at, y_at
from paymill.rising import pairs_below
from paymill.rules import is_rule, rules_in


class Sheet:
    """A line for each day, by its rest, and for odd days a line of their own."""

    def __init__(self, rows, *, odd=()):
        _refuse_wrong(rows, odd)
        known = {}
        numbers = _numbers_of(rows, known)
        many = _least_round(numbers)
        self.rows = tuple(rows[:many])
        self.odd = tuple([(day, line) for day, line in sorted(odd) if line != rows[day % many]])
        # Of many days alike each line is to be asked but once.
        self._lines = tuple(known)
        self._numbers = numbers[:many]

    def line_on(self, day):
        """The line of a day."""
        at = pairs_below(self.odd, day)
        if at < len(self.odd) and self.odd[at][0] == day:
            return self.odd[at][1]
        return self.rows[day % len(self.rows)]

    def pays(self, day, hours):
        """What is paid for a day and hours."""
        return y_at(self.line_on(day), hours)

    def __eq__(self, other):
        return isinstance(other, Sheet) and self.rows == other.rows and self.odd == other.odd

    def __len__(self):
        return len(self.rows)

    def __str__(self):
        return f"{len(self.rows)} days, {len(self.odd)} odd"

    def __repr__(self):
        return str(self)


def sheet_of(rule):
    """The sheet that pays what a rule pays."""
    if not is_rule(rule):
        raise NoRule("this is no rule")
    many = _common_period(rule)
    if many > MOST_PERIOD:
        raise TooLong(many)
    return _sheet_of_plan(_plan_of(rule))


def mixed_sheets(word, one, other):
    """The sheet that pays what two pay, mixed by a word."""
    if not (type(word) is str and word in ("sum", "most", "least")):
        raise NoRule("no sheets are mixed by this word")
    many = lcm(len(one), len(other))
    if many > MOST_PERIOD:
        raise TooLong(many)
    return _sheet_of_plan(_mixed_plan(word, _plan_of_sheet(one), _plan_of_sheet(other)))


def parted(one, other):
    """A day and hours for which two sheets pay unlike; None where there are none."""
    odd_days = sorted(set([day for day, _ in one.odd + other.odd]))
    unlike = [day for day in odd_days if one.line_on(day) != other.line_on(day)]
    from_0_on = [day for day in unlike if day >= 0]
    plain = _unlike_plain_day(one, other, odd_days)
    if plain is not None:
        from_0_on.append(plain)
    if len(unlike) + len(from_0_on) == 0:
        return None
    # What is unlike by its rest alone is so from 0 on, too: below 0 there is
    # nothing but odd days to look at.
    day = min(from_0_on) if from_0_on else max(unlike)
    return (day, unlike_at(one.line_on(day), other.line_on(day)))


def lines_by_rest(sheet, one, other):
    """Pairs (line, how many) of the days from one on, ahead of other, by their rest.

    So odd days count as if they weren't odd.
    """
    rounds, behind = divmod(other - one, len(sheet))
    counts = [0] * len(sheet._lines)
    if rounds > 0:
        for number in sheet._numbers:
            counts[number] += rounds
    for number in _cut_out(sheet._numbers, one, behind):
        counts[number] += 1
    return [(line, many) for line, many in zip(sheet._lines, counts) if many > 0]


def odd_between(sheet, one, other):
    """Pairs (day, line) of the odd days from one on, ahead of other."""
    return sheet.odd[pairs_below(sheet.odd, one):pairs_below(sheet.odd, other)]


def _refuse_wrong(rows, odd):
    """Refuse what makes no sheet."""
    if len(rows) == 0:
        raise NoRule("a sheet has at least one line")
    if len(rows) > MOST_PERIOD:
        raise NoRule("a sheet has no more lines than MOST_PERIOD")
    if len(set([day for day, _ in odd])) != len(odd):
        raise NoRule("an odd day has just one line")


def _numbers_of(lines, known):
    """The number of each of a row of lines; known has those told so far."""
    return [known.setdefault(line, len(known)) for line in lines]


def _least_round(numbers):
    """The least period by which a row that goes round does so."""
    many = len(numbers)
    for period in range(1, many):
        if many % period == 0 and numbers[period:] == numbers[:many - period]:
            return period
    return many


def _common_period(rule):
    """The least number that the periods of all days in a rule divide."""
    many = rule[1].period if rule[0] == "on" else 1
    for inner in rules_in(rule):
        many = lcm(many, _common_period(inner))
    return many


def _plan_of(rule):
    """The plan that pays what a rule pays."""
    word = rule[0]
    if word == "flat":
        return ([flat(rule[1])], [0], {})
    if word == "hours":
        return ([rule[1]], [0], {})
    plans = [_plan_of(inner) for inner in rules_in(rule)]
    if word == "on":
        return _parted_plan(rule[1], plans[0], plans[1])
    if word == "times":
        lines, numbers, odd = plans[0]
        return ([times_line(line, rule[1]) for line in lines], numbers, odd)
    return _mixed_plan(word, plans[0], plans[1])


def _plan_of_sheet(sheet):
    known = {}
    numbers = _numbers_of(sheet.rows, known)
    odd_numbers = _numbers_of([line for _, line in sheet.odd], known)
    odd_days = [day for day, _ in sheet.odd]
    return (list(known), numbers, dict(zip(odd_days, odd_numbers)))


def _plan_of_days(days):
    """The plan of a set of days, with whether they are in for lines."""
    numbers = [0] * days.period
    for mark in days.marks:
        numbers[mark] = 1
    return ([False, True], numbers, {day: int(days.has(day)) for day in days.turned})


def _sheet_of_plan(plan):
    lines, numbers, odd = plan
    odd_lines = [(day, lines[number]) for day, number in odd.items()]
    return Sheet([lines[number] for number in numbers], odd=odd_lines)


def _parted_plan(days, one, other):
    """The plan with one's lines on these days, else the other's."""
    plans = [_plan_of_days(days), one, other]
    return _plan_together(plans, lambda is_in, first, second: first if is_in else second)


def _mixed_plan(word, one, other):
    """The plan with the lines of both, mixed by a word."""
    return _plan_together([one, other], lambda first, second: _mixed_line(word, first, second))


def _mixed_line(word, first, second):
    if word == "sum":
        return sum_line(first, second)
    if word == "most":
        return most_line(first, second)
    return least_line(first, second)


def _plan_together(plans, make):
    """The plan with what is made of the lines of all plans on each day."""
    keys, odd_keys = _keys_together(plans)
    numbers, known = {}, {}
    for key in keys + list(odd_keys.values()):
        if key not in numbers:
            lines = [plan[0][number] for plan, number in zip(plans, key)]
            numbers[key] = known.setdefault(make(*lines), len(known))
    odd = {day: numbers[key] for day, key in odd_keys.items()}
    return (list(known), [numbers[key] for key in keys], odd)


def _keys_together(plans):
    """The numbers by all plans together, for each rest and for all odd days."""
    many = 1
    for plan in plans:
        many = lcm(many, len(plan[1]))
    rows = [plan[1] * (many // len(plan[1])) for plan in plans]
    odd_keys = {}
    for day in sorted(set([odd_day for plan in plans for odd_day in plan[2]])):
        odd_keys[day] = tuple([_number_on(plan, day) for plan in plans])
    return (list(zip(*rows)), odd_keys)


def _number_on(plan, day):
    """The number of a day's line by a plan."""
    _, numbers, odd = plan
    return odd.get(day, numbers[day % len(numbers)])


def _unlike_plain_day(one, other, odd_days):
    """The least day from 0 on, but for odd ones, on which two sheets are unlike."""
    known = {}
    first, second = _numbers_of(one.rows, known), _numbers_of(other.rows, known)
    odd = set(odd_days)
    day = _unlike_by_rests(first, second, 0)
    while day in odd:
        day = _unlike_by_rests(first, second, day + 1)
    return day


def _unlike_by_rests(first, second, begin):
    """The least day from begin on on which two rows that go round are unlike."""
    # Two that go round are alike for ever where they are for as many days as
    # both their periods together.
    many = len(first) + len(second)
    row, other_row = _cut_out(first, begin, many), _cut_out(second, begin, many)
    for at, number in enumerate(row):
        if number != other_row[at]:
            return begin + at
    return None


def _cut_out(numbers, begin, many):
    """The numbers of so many days from begin on, by a row that goes round."""
    start = begin % len(numbers)
    return (numbers * ((start + many) // len(numbers) + 1))[start:start + many]
