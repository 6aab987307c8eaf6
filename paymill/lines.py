"""Lines: pairs (knots, slope), straight between knots and behind the last.

Knots are a row of pairs (x, y) of parts, the first x nought, each next one
greater. A line is normal: it bends at each of its knots but the first.
"""

from paymill.errors import NoAmount, NoLine
from paymill.parts import NOUGHT, ONE, is_part, is_less, least, greatest
from paymill.parts import plus, less, times, over


def is_line(thing):
    """Whether anything is a normal line, of however many knots."""
    if not _is_pair(thing):
        return False
    knots, slope = thing
    if not (type(knots) is tuple and len(knots) >= 1 and is_part(slope)):
        return False
    if not all([_is_knot(knot) for knot in knots]):
        return False
    if knots[0][0] != NOUGHT or not _is_rising(knots):
        return False
    return len(_bends(knots, slope)) == len(knots)


def line_of(knots, slope):
    """The normal line of a row of pairs of parts and the slope behind them."""
    if len(knots) == 0:
        raise NoLine("a line has at least one knot")
    if knots[0][0] != NOUGHT:
        raise NoLine("the first knot of a line is at nought")
    if not _is_rising(knots):
        raise NoLine("each knot of a line is behind the one ahead of it")
    return (_bends(knots, slope), slope)


def flat(y):
    """The line that has the same part at each x."""
    return (((NOUGHT, y),), NOUGHT)


def y_at(line, x):
    """The line's y at an amount."""
    if x[0] < 0:
        raise NoAmount("a line begins at nought")
    return _height(line, _knot_no_later(line[0], x), x)


def sum_line(one, other):
    """The line of both together at each x."""
    xs = _merged(_knot_xs(one), _knot_xs(other))
    ys = [plus(first, second) for first, second in _both_heights(one, other, xs)]
    return line_of(list(zip(xs, ys)), plus(one[1], other[1]))


def times_line(line, by):
    """The line times any part."""
    knots, slope = line
    return line_of([(x, times(y, by)) for x, y in knots], times(slope, by))


def most_line(one, other):
    """The line of the greater of two at each x."""
    return _chosen_line(one, other, greatest)


def least_line(one, other):
    """The line of the lesser of two at each x."""
    return _chosen_line(one, other, least)


def put_into(outer, inner):
    """The line whose y at x is the outer's y at the inner's y."""
    knots, slope = inner
    if slope[0] < 0 or any([y[0] < 0 for _, y in knots]):
        raise NoLine("the inner line is below 0 somewhere")
    xs = _xs_at_heights(inner, _knot_xs(outer))
    ys = [y_at(outer, height) for height in _heights(inner, xs)]
    return line_of(list(zip(xs, ys)), times(outer[1], slope))


def first_at(line, goal, *, begin=NOUGHT):
    """The least x from begin on at which the line is at least a goal."""
    knots, slope = line
    x, y = begin, y_at(line, begin)
    if not is_less(y, goal):
        return x
    for next_x, next_y in knots[_knot_no_later(knots, begin) + 1:]:
        if not is_less(next_y, goal):
            return _x_at_height(x, y, over(less(next_y, y), less(next_x, x)), goal)
        x, y = next_x, next_y
    if slope[0] <= 0:
        return None
    return _x_at_height(x, y, slope, goal)


def never_falls(line):
    """Whether the line has nowhere less than at a lesser x."""
    return not any([slope[0] < 0 for slope in _slopes(line[0], line[1])])


def unlike_at(one, other):
    """The least x of all knots, and of one more than these, where two differ."""
    xs = _merged(_knot_xs(one), _knot_xs(other))
    xs.append(plus(xs[-1], ONE))
    for at, (first, second) in enumerate(_both_heights(one, other, xs)):
        if first != second:
            return xs[at]
    return None


def _is_pair(thing):
    return type(thing) is tuple and len(thing) == 2


def _is_knot(thing):
    return _is_pair(thing) and is_part(thing[0]) and is_part(thing[1])


def _is_rising(knots):
    """Whether each x of a row of knots is greater than that ahead of it."""
    return all([is_less(knots[at][0], knots[at + 1][0]) for at in range(len(knots) - 1)])


def _slopes(knots, slope):
    """The slope behind each knot of a row."""
    found = []
    for at in range(len(knots) - 1):
        x, y = knots[at]
        next_x, next_y = knots[at + 1]
        found.append(over(less(next_y, y), less(next_x, x)))
    return found + [slope]


def _bends(knots, slope):
    """The first knot of a row, and those at which it doesn't go straight on."""
    slopes = _slopes(knots, slope)
    found = []
    for at, (x, y) in enumerate(knots):
        if at == 0 or slopes[at] != slopes[at - 1]:
            found.append((x, y))
    return tuple(found)


def _knot_xs(line):
    return [x for x, _ in line[0]]


def _knot_no_later(knots, x):
    """The number of the last knot at x or ahead of it."""
    low, high = 0, len(knots)
    while high - low > 1:
        middle = (low + high) // 2
        if is_less(x, knots[middle][0]):
            high = middle
        else:
            low = middle
    return low


def _slope_behind(line, at):
    """The slope of the line behind its knot of this number."""
    return _slopes(line[0][at:at + 2], line[1])[0]


def _height(line, at, x):
    """The line's y at x, which is behind the at-th knot, or is there."""
    knot_x, knot_y = line[0][at]
    if x == knot_x:
        # Most x that are asked for are those of knots.
        return knot_y
    return plus(knot_y, times(_slope_behind(line, at), less(x, knot_x)))


def _heights(line, xs):
    """The line's y at each of a rising row of amounts."""
    knots = line[0]
    found = []
    at = 0
    for x in xs:
        while at + 1 < len(knots) and not is_less(x, knots[at + 1][0]):
            at = at + 1
        found.append(_height(line, at, x))
    return found


def _both_heights(one, other, xs):
    """Pairs of the y of two lines at each of a rising row of amounts."""
    return list(zip(_heights(one, xs), _heights(other, xs)))


def _merged(some, others):
    """Two rising rows of parts as one, none twice."""
    found = []
    at = 0
    for x in some:
        while at < len(others) and is_less(others[at], x):
            found.append(others[at])
            at = at + 1
        if at < len(others) and others[at] == x:
            at = at + 1
        found.append(x)
    return found + others[at:]


def _x_at_height(x, y, slope, height):
    """The x at which what goes through (x, y) by this slope has a height."""
    return plus(x, over(less(height, y), slope))


def _is_behind(height, y, slope):
    """Whether what goes on by this slope has a height behind where it has y."""
    if slope[0] < 0:
        return is_less(height, y)
    return slope[0] > 0 and is_less(y, height)


def _xs_at_heights(line, heights):
    """The x of all knots, and where the line has one of some rising heights."""
    knots = line[0]
    slopes = _slopes(knots, line[1])
    found = []
    for at, (x, y) in enumerate(knots):
        met = [height for height in heights if _is_behind(height, y, slopes[at])]
        if at + 1 < len(knots):
            end = knots[at + 1][1]
            met = [height for height in met if _is_behind(end, height, slopes[at])]
        if slopes[at][0] < 0:
            met = met[::-1]
        found.append(x)
        found.extend([_x_at_height(x, y, slopes[at], height) for height in met])
    return found


def _chosen_line(one, other, choose):
    """The line of what is chosen of the y of two lines at each x."""
    # Between their knots two lines change places only where they meet.
    gap = sum_line(one, times_line(other, (-1, 1)))
    met = _xs_at_heights(gap, [NOUGHT])
    xs = _merged(_merged(_knot_xs(one), _knot_xs(other)), met)
    ys = [choose(pair) for pair in _both_heights(one, other, xs)]
    # Behind the last x they never meet again: the greater has the greater
    # slope, or both have the same.
    return line_of(list(zip(xs, ys)), choose((one[1], other[1])))
