"""Bands: what is taken of a year's sum, each band of what lies within it.

Bands are a row of pairs (from, rate), the first from nought. As a line of
what they take, they bend just where their rates change.
"""

from paymill.errors import NoTable
from paymill.lines import first_at, line_of, put_into, sum_line, times_line, y_at
from paymill.parts import NOUGHT, ONE, is_amount, is_less, less, over, plus, times

# What is left where nothing is taken.
_ALL_LEFT = ((((0, 1), (0, 1)),), (1, 1))


def is_bands(thing):
    """Whether anything is bands, however many pairs."""
    if not (type(thing) is tuple and len(thing) >= 1 and all([_is_band(one) for one in thing])):
        return False
    rising = [is_less(thing[at][0], thing[at + 1][0]) for at in range(len(thing) - 1)]
    return thing[0][0] == NOUGHT and all(rising)


def normal_bands(bands):
    """The bands without those whose rate is that ahead."""
    return _bands_of(taken_line(bands))


def taken(bands, amount, *, ahead=NOUGHT):
    """What is taken of an amount that comes behind a sum ahead."""
    line = taken_line(bands)
    # The line itself refuses sums below 0.
    return less(y_at(line, plus(ahead, amount)), y_at(line, ahead))


def left(bands, total):
    """What is left of a sum."""
    return y_at(_left_line(bands), total)


def least_left(bands, goal):
    """The least sum of which at least so much is left; None where there is none."""
    return first_at(_left_line(bands), goal)


def least_taken(bands, goal):
    """The least sum of which at least so much is taken; None where there is none."""
    return first_at(taken_line(bands), goal)


def behind(first, second):
    """The bands that take what the first take, and the second of what these leave."""
    line, other = taken_line(first), taken_line(second)
    return _bands_of(sum_line(line, put_into(other, _left_line(first))))


def beside(first, second):
    """The bands that take what both take of the whole sum."""
    found = _bands_of(sum_line(taken_line(first), taken_line(second)))
    if any([is_less(ONE, rate) for _, rate in found]):
        raise NoTable("both together take more than all")
    return found


def alike_to(one, other):
    """The greatest sum up to which two take alike; None where they do for ever."""
    knots, slope = sum_line(taken_line(one), times_line(taken_line(other), (-1, 1)))
    if len(knots) == 1:
        return None if slope == NOUGHT else NOUGHT
    # The gap is a normal line: where it begins flat, it does so to its next knot.
    x, y = knots[1]
    return x if y == NOUGHT else NOUGHT


def taken_line(bands):
    """The line of what is taken of each sum."""
    if not is_bands(bands):
        raise NoTable("these are no bands")
    x, rate = bands[0]
    y = NOUGHT
    knots = [(x, y)]
    for begin, next_rate in bands[1:]:
        y = plus(y, times(rate, less(begin, x)))
        knots.append((begin, y))
        x, rate = begin, next_rate
    return line_of(knots, rate)


def _is_band(thing):
    """Whether anything is a pair of an amount and a rate."""
    if not (type(thing) is tuple and len(thing) == 2 and is_amount(thing[0])):
        return False
    return is_amount(thing[1]) and not is_less(ONE, thing[1])


def _left_line(bands):
    """The line of what is left of each sum."""
    return sum_line(_ALL_LEFT, times_line(taken_line(bands), (-1, 1)))


def _bands_of(line):
    """The normal bands that take just what a line tells."""
    knots, slope = line
    found = []
    for at in range(len(knots) - 1):
        x, y = knots[at]
        next_x, next_y = knots[at + 1]
        found.append((x, over(less(next_y, y), less(next_x, x))))
    found.append((knots[-1][0], slope))
    return tuple(found)
