"""Pennies: amounts rounded so that the sums of two foldings are whole, too.

A folding is a tuple of sets of places, any two apart, alike, or one within
the other; that of all places belongs to each. What stands between the floors
and one more goes round a net of edges: down the sets of one folding, through
the places, up the sets of the other. A whole round may be pushed without an
effect on what comes to a set and leaves it.
"""

from paymill.errors import NoFold, NoNumber
from paymill.parts import NOUGHT, ONE, floor, is_part, is_whole
from paymill.parts import least, less, part, plus, summed, times
from paymill.rising import is_rising

_MOST_SETS = 40


def is_folding(amounts, thing):
    """Whether anything is a folding of the amounts."""
    if not (type(thing) is tuple and len(thing) <= _MOST_SETS):
        return False
    if not all([_is_set(len(amounts), one) for one in thing]):
        return False
    masks = [sum([1 << place for place in one]) for one in thing]
    return all([one & other in (0, one, other) for one in masks for other in masks])


def rounded(amounts, one=(), other=(), *, up=None, down=None):
    """The amounts rounded by two foldings, perhaps with a place up, or one down."""
    _refuse_no_folding(amounts, one, other)
    free = [place for place, amount in enumerate(amounts) if amount[1] != 1]
    if up is not None and not (is_whole(up) and up in free):
        raise NoNumber(up)
    if down is not None and not (up is None and is_whole(down) and down in free):
        raise NoNumber(down)
    edges, levels = _net_of(amounts, one, other)
    if up is not None:
        _push_through(edges, levels, ONE, up, 1)
    if down is not None:
        _push_through(edges, levels, ONE, down, -1)
    return _told_by(amounts, _settled(edges, levels, ONE))


def rounded_right(amounts, one, other, thing):
    """Whether anything is the amounts rounded by two foldings."""
    _refuse_no_folding(amounts, one, other)
    return _is_rounded(amounts, one + other, thing)


def mixed(amounts, one=(), other=()):
    """A mix: pairs (rounded, chance) that give each amount on the whole."""
    _refuse_no_folding(amounts, one, other)
    edges, levels = _net_of(amounts, one, other)
    rest = ONE
    found = []
    while rest != NOUGHT:
        ends = _settled(edges, levels, rest)
        # As much of it as leaves all levels between nought and the rest: then
        # one more of them is at its end, so there are no more than places.
        chance = least([_room_of(level, end, rest) for level, end in zip(levels, ends)])
        levels = [less(level, chance) if end != NOUGHT else level
                  for level, end in zip(levels, ends)]
        rest = less(rest, chance)
        found.append((_told_by(amounts, ends), chance))
    return tuple(found)


def mix_right(amounts, one, other, thing):
    """Whether anything is a mix of the amounts by two foldings."""
    _refuse_no_folding(amounts, one, other)
    if not (type(thing) is tuple and len(thing) <= len(amounts) + 1):
        return False
    if not all([_is_chanced(amounts, one + other, pair) for pair in thing]):
        return False
    if summed([chance for _, chance in thing]) != ONE:
        return False
    sums = [summed([times(part(row[place]), chance) for row, chance in thing])
            for place in range(len(amounts))]
    return sums == list(amounts)


def _is_set(many, thing):
    """Whether anything is a rising tuple of some of so many places."""
    if not (type(thing) is tuple and 1 <= len(thing) <= many):
        return False
    return all([is_whole(place) and 0 <= place < many for place in thing]) and is_rising(thing)


def _refuse_no_folding(amounts, one, other):
    """Refuse what is no folding of the amounts."""
    if not (is_folding(amounts, one) and is_folding(amounts, other)):
        raise NoFold("this is no folding of the amounts")


def _is_rounding(amount, number):
    """Whether a number is the floor of an amount or one more, or itself."""
    low = floor(amount)
    return number == low or (number == low + 1 and amount[1] != 1)


def _is_rounded(amounts, sets, thing):
    """Whether anything is the amounts rounded by some sets and that of all."""
    if not (type(thing) is tuple and len(thing) == len(amounts)):
        return False
    if not all([is_whole(number) for number in thing]):
        return False
    if not all([_is_rounding(amount, number) for amount, number in zip(amounts, thing)]):
        return False
    for places in (tuple(range(len(amounts))),) + sets:
        total = summed([amounts[place] for place in places])
        if not _is_rounding(total, sum([thing[place] for place in places])):
            return False
    return True


def _is_chanced(amounts, sets, thing):
    """Whether anything is a pair of the amounts rounded and a chance."""
    if not (type(thing) is tuple and len(thing) == 2 and is_part(thing[1])):
        return False
    return thing[1][0] > 0 and _is_rounded(amounts, sets, thing[0])


def _net_of(amounts, one, other):
    """The edges of the net, and how far each is above its floor.

    An edge is a pair of nodes: from, to. Those of the places stand ahead.
    """
    rows, other_rows = _from_outside(len(amounts), one), _from_outside(len(amounts), other)
    behind = len(rows)
    edges = [(_inmost(rows, place), behind + _inmost(other_rows, place))
             for place in range(len(amounts))]
    sums = list(amounts)
    for at, row in enumerate(rows):
        # From what all places are in, the round closes at the other such.
        edges.append((_inmost(rows[:at], row[0]) if at > 0 else behind, at))
        sums.append(summed([amounts[place] for place in row]))
    for at, row in enumerate(other_rows[1:]):
        edges.append((behind + at + 1, behind + _inmost(other_rows[:at + 1], row[0])))
        sums.append(summed([amounts[place] for place in row]))
    return (edges, [less(total, part(floor(total))) for total in sums])


def _from_outside(many, folding):
    """The unlike sets of a folding and that of all places, the greatest first."""
    sized = sorted(set([(-len(row), row) for row in folding + (tuple(range(many)),)]))
    return [row for _, row in sized]


def _inmost(rows, place):
    """The number of the last of some rows that has a place."""
    return [at for at, row in enumerate(rows) if place in row][-1]


def _is_between(level, most):
    return level != NOUGHT and level != most


def _settled(edges, levels, most):
    """The levels, each pushed to nought or to the most."""
    ends = list(levels)
    for at in range(len(edges)):
        _push_through(edges, ends, most, at, 1)
    return ends


def _push_through(edges, levels, most, at, by):
    """Push rounds through an edge, up or down, until it is between no more."""
    while _is_between(levels[at], most):
        signs = [(edge, sign * by) for edge, sign in _round_of(edges, levels, most, at)]
        push = least([less(most, levels[edge]) if sign > 0 else levels[edge]
                      for edge, sign in signs])
        for edge, sign in signs:
            levels[edge] = plus(levels[edge], times(push, (sign, 1)))


def _round_of(edges, levels, most, at):
    """A round of edges between, through one: pairs (edge, 1 along it or -1)."""
    # There is one: at no node a single edge can be between, as what comes to
    # it and what leaves it are alike.
    begin, end = edges[at][1], edges[at][0]
    came = {begin: (at, 1, None)}
    waiting = [begin]
    while end not in came:
        node = waiting.pop()
        for edge, sign, there in _ways_from(edges, levels, most, node):
            if edge != at and there not in came:
                came[there] = (edge, sign, node)
                waiting.append(there)
    found = []
    node = end
    while node is not None:
        edge, sign, node = came[node]
        found.append((edge, sign))
    return found


def _ways_from(edges, levels, most, node):
    """Triples (edge, 1 along it or -1, the node there) of edges between at a node."""
    found = []
    for edge, (begin, end) in enumerate(edges):
        if _is_between(levels[edge], most) and node in (begin, end):
            found.append((edge, 1, end) if node == begin else (edge, -1, begin))
    return found


def _told_by(amounts, ends):
    """The amounts rounded as their edges have settled."""
    return tuple([floor(amount) + int(end != NOUGHT) for amount, end in zip(amounts, ends)])


def _room_of(level, end, rest):
    """How great a chance the end of a level may have."""
    return level if end != NOUGHT else less(rest, level)
