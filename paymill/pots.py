"""Pots: stoppages by ranks, under the caps of pots within pots.

A whole pot is laid out as two rows. Its orders, in the order of going in, are
quadruples (name, want, rank, weight). Its pots are quadruples (path, cap,
begin, end): those orders are held whose numbers are from begin on, ahead of
end. The amounts of a dealing are laid out as a row beside the orders.
"""

from paymill.errors import NoPot
from paymill.lines import line_of
from paymill.names import is_name
from paymill.parts import NOUGHT, is_amount, is_less, is_whole
from paymill.parts import least, less, over, summed, times
from paymill.rising import is_rising

_MOST_ORDERS = 30
_MOST_POTS = 30
_MOST_WITHIN = 8
_MOST_RANK = 99


def is_pot(thing):
    """Whether anything is a whole pot."""
    if not _is_pot_alone(thing):
        return False
    waiting = [(thing, 1)]
    pots, names = 0, {}
    while waiting:
        one, deep = waiting.pop()
        if _is_pot_alone(one) and deep <= _MOST_WITHIN:
            pots = pots + 1
            waiting.extend([(member, deep + 1) for member in one[2]])
        elif _is_order(one) and one[1] not in names:
            names[one[1]] = True
        else:
            return False
        # One pot may stand within others far oftener than can be gone through.
        if pots > _MOST_POTS or len(names) > _MOST_ORDERS:
            return False
    return True


def names_of(pot):
    """The names of the orders, as they are met going in."""
    _, orders = _laid_out(pot)
    return tuple([name for name, _, _, _ in orders])


def dealt(pot, *, cap=None):
    """The even dealing, also by a cap in the place of the whole pot's."""
    pots, orders = _laid_out(pot)
    if cap is not None:
        pots = [((), cap, 0, len(orders)), *pots[1:]]
    return _by_name(orders, _steps(pots, orders, _ranks_of(orders))[-1])


def dealing_right(pot, thing):
    """Whether anything is a dealing, even or not."""
    pots, orders = _laid_out(pot)
    return _amounts_of(pots, orders, thing) is not None


def reasons_of(pot):
    """The reasons of the even dealing."""
    pots, orders = _laid_out(pot)
    amounts = _steps(pots, orders, _ranks_of(orders))[-1]
    return _by_name(orders, [_reason_of(pots, orders, amounts, at) for at in range(len(orders))])


def reasons_right(pot, dealing, thing):
    """Whether anything is a dealing and anything its reasons."""
    pots, orders = _laid_out(pot)
    amounts = _amounts_of(pots, orders, dealing)
    if amounts is None or not _is_by_names(orders, thing):
        return False
    by_path = {one[0]: one for one in pots}
    for at, (name, want, _, _) in enumerate(orders):
        path = thing[name]
        if path is None:
            if amounts[at] != want:
                return False
        elif not (_is_path(path) and path in by_path
                  and _is_reason(by_path[path], orders, amounts, at)):
            return False
    return True


def bars_of(pot, rank):
    """Bars for a rank that come to just what the even dealing gives so far."""
    pots, orders = _laid_out(pot)
    # What greater ranks have would count in the caps that they help to reach.
    amounts = _steps(pots, orders, [one for one in _ranks_of(orders) if one <= rank])[-1]
    paths, names = [], []
    for at, (name, _, of_rank, _) in enumerate(orders):
        if of_rank <= rank:
            reached = [one[0] for one in pots if _holds(one, at) and _is_reached(one, amounts)]
            if len(reached) == 0:
                names.append(name)
            elif reached[0] not in paths:
                # The outermost alone, or what is within would count twice.
                paths.append(reached[0])
    return (tuple(sorted(paths)), tuple(sorted(names)))


def bars_sum(pot, rank, thing):
    """What the caps and wants of bars come to; None of anything that is no bars."""
    pots, orders = _laid_out(pot)
    if not (type(thing) is tuple and len(thing) == 2):
        return None
    paths, names = thing
    by_path = {one[0]: one for one in pots}
    wants = {name: want for name, want, _, _ in orders}
    if not (_is_row(paths, by_path, _is_path) and _is_row(names, wants, is_name)):
        return None
    for at, (name, _, of_rank, _) in enumerate(orders):
        held = [path for path in paths if _holds(by_path[path], at)]
        if of_rank <= rank and len(held) == 0 and name not in names:
            return None
    return summed([by_path[path][1] for path in paths] + [wants[name] for name in names])


def share_lines(pot):
    """The line of what each order has by each cap of the whole pot."""
    pots, orders = _laid_out(pot)
    # By whatever cap, the whole pot only ends a dealing that goes the same
    # way else: where all together is as much.
    steps = _steps(pots[1:], orders, _ranks_of(orders))
    totals = [summed(amounts) for amounts in steps]
    lines = [line_of(list(zip(totals, [amounts[at] for amounts in steps])), NOUGHT)
             for at in range(len(orders))]
    return _by_name(orders, lines)


def _is_order(thing):
    """Whether anything is an order."""
    if not (_is_tuple_of(thing, "order", 5) and is_name(thing[1]) and is_amount(thing[2])):
        return False
    if not (is_whole(thing[3]) and 0 <= thing[3] <= _MOST_RANK):
        return False
    return is_amount(thing[4]) and thing[4] != NOUGHT


def _is_pot_alone(thing):
    """Whether anything is a pot, whatever its members are."""
    return _is_tuple_of(thing, "pot", 3) and is_amount(thing[1]) and type(thing[2]) is tuple


def _is_tuple_of(thing, word, many):
    """Whether anything is a tuple of so many, a word ahead."""
    if not (type(thing) is tuple and len(thing) == many):
        return False
    return type(thing[0]) is str and thing[0] == word


def _is_path(thing):
    return type(thing) is tuple and all([is_whole(place) for place in thing])


def _is_row(thing, known, is_fit):
    """Whether anything is a rising row of fit things that are known."""
    if not (type(thing) is tuple and all([is_fit(one) for one in thing])):
        return False
    return is_rising(thing) and all([one in known for one in thing])


def _is_by_names(orders, thing):
    """Whether anything is a dict from just the orders' names."""
    # A key that is no text might raise where it is asked whether it is a name.
    if not (type(thing) is dict and all([type(key) is str for key in thing])):
        return False
    return len(thing) == len(orders) and all([name in thing for name, _, _, _ in orders])


def _laid_out(pot):
    """The pots and the orders of a whole pot."""
    if not is_pot(pot):
        raise NoPot("this is no whole pot")
    pots, orders = [], []
    _go_in(pot, (), pots, orders)
    return (pots, orders)


def _go_in(pot, path, pots, orders):
    """Put a pot and all that is within it behind what was met so far."""
    at, begin = len(pots), len(orders)
    pots.append(None)
    for place, member in enumerate(pot[2]):
        if member[0] == "pot":
            _go_in(member, path + (place,), pots, orders)
        else:
            orders.append(member[1:])
    pots[at] = (path, pot[1], begin, len(orders))


def _by_name(orders, row):
    """A dict from the orders' names to what stands beside them in a row."""
    return {order[0]: one for order, one in zip(orders, row)}


def _ranks_of(orders):
    return sorted(set([rank for _, _, rank, _ in orders]))


def _holds(pot, at):
    """Whether a pot holds the order of a number."""
    return pot[2] <= at < pot[3]


def _is_reached(pot, amounts):
    """Whether what a pot holds comes to its cap."""
    _, cap, begin, end = pot
    return summed(amounts[begin:end]) == cap


def _amounts_of(pots, orders, thing):
    """The amounts of anything that is a dealing, else None."""
    if not _is_by_names(orders, thing):
        return None
    amounts = [thing[name] for name, _, _, _ in orders]
    if not all([is_amount(amount) for amount in amounts]):
        return None
    if any([is_less(order[1], amount) for order, amount in zip(orders, amounts)]):
        return None
    for _, cap, begin, end in pots:
        if is_less(cap, summed(amounts[begin:end])):
            return None
    return amounts


def _steps(pots, orders, ranks):
    """The amounts at first, and each time one or more of them rise no more."""
    amounts = [NOUGHT] * len(orders)
    steps = [tuple(amounts)]
    for rank in ranks:
        rising = _rising(pots, orders, amounts, rank)
        while rising:
            level = _next_level(pots, orders, amounts, rising)
            for at in rising:
                amounts[at] = times(orders[at][3], level)
            steps.append(tuple(amounts))
            rising = _rising(pots, orders, amounts, rank)
    return steps


def _rising(pots, orders, amounts, rank):
    """The numbers of a rank's orders that aren't met, nor in a pot that is reached."""
    still = {}
    for one in pots:
        if _is_reached(one, amounts):
            for at in range(one[2], one[3]):
                still[at] = True
    return [at for at, (_, want, of_rank, _) in enumerate(orders)
            if of_rank == rank and amounts[at] != want and at not in still]


def _next_level(pots, orders, amounts, rising):
    """The level at which the first of those that rise is met, or its pot reached."""
    levels = [over(orders[at][1], orders[at][3]) for at in rising]
    for one in pots:
        held = [at for at in rising if _holds(one, at)]
        if held:
            rest = [amounts[at] for at in range(one[2], one[3]) if at not in held]
            weights = [orders[at][3] for at in held]
            levels.append(over(less(one[1], summed(rest)), summed(weights)))
    return least(levels)


def _reason_of(pots, orders, amounts, at):
    """A reason why an order has no more, by the amounts of the even dealing."""
    if amounts[at] == orders[at][1]:
        return None
    return [one[0] for one in pots if _is_reason(one, orders, amounts, at)][0]


def _is_reason(pot, orders, amounts, at):
    """Whether a pot tells why the order of a number has no more."""
    if not (_holds(pot, at) and _is_reached(pot, amounts)):
        return False
    rank, level = orders[at][2], over(amounts[at], orders[at][3])
    for other in range(pot[2], pot[3]):
        if amounts[other] == NOUGHT:
            continue
        other_rank, other_level = orders[other][2], over(amounts[other], orders[other][3])
        if other_rank > rank or (other_rank == rank and is_less(level, other_level)):
            return False
    return True
