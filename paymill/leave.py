"""Leave: days asked for from lots that lapse, the worthiest first.

A way moves one ask from lot to lot until there is room for one more: so asks
are let in by falling worth, and none that was let in goes out again. Where no
way is left, all lots that could be reached are full, and their days are a bar.
"""

from paymill.errors import NoLeave, NoNumber
from paymill.parts import is_whole
from paymill.rising import is_rising

COMMON = 1
_MOST_LOTS = 20
_MOST_ASKS = 40
_MOST_MANY = 1000000


def are_lots(thing):
    """Whether anything is lots."""
    return _is_row_of(thing, _MOST_LOTS) and all([_is_lot(one) for one in thing])


def are_asks(thing):
    """Whether anything is asks."""
    return _is_row_of(thing, _MOST_ASKS) and all([_is_ask(one) for one in thing])


def best_leave(lots, asks):
    """The greatest worth of a plan, and a plan that has it."""
    _refuse_wrong(lots, asks)
    plan = _best_plan(lots, asks)
    return (_worth_of(asks, plan), tuple(plan))


def plan_worth(lots, asks, thing):
    """The worth of anything that is a plan, else None."""
    _refuse_wrong(lots, asks)
    return _worth_of(asks, thing) if _is_plan(lots, asks, thing) else None


def bar_count(lots, asks, worth, thing):
    """The count of anything that is a bar, for a worth; else None."""
    _refuse_wrong(lots, asks)
    return _count_of(lots, asks, worth, thing) if _is_bar(thing) else None


def papers_of(lots, asks):
    """The papers of a plan of greatest worth."""
    _refuse_wrong(lots, asks)
    plan = _best_plan(lots, asks)
    papers = {}
    for worth in _worths_of(asks):
        # Lesser asks count for nothing here: as if they had no lot.
        some = [lot if ask[1] >= worth else None for lot, ask in zip(plan, asks)]
        left_out = [ask[0] for lot, ask in zip(some, asks) if lot is None and ask[1] >= worth]
        papers[worth] = _bar_from(lots, asks, some, left_out)
    return papers


def papers_right(lots, asks, plan, thing):
    """Whether anything is a plan and anything its papers."""
    _refuse_wrong(lots, asks)
    if not (_is_plan(lots, asks, plan) and type(thing) is dict):
        return False
    # A key that is no number might raise where it is asked whether it is a worth.
    if not all([is_whole(key) for key in thing]) or sorted(thing) != _worths_of(asks):
        return False
    for worth, bar in thing.items():
        with_lot = [ask for lot, ask in zip(plan, asks) if lot is not None and ask[1] >= worth]
        if not _is_bar(bar) or _count_of(lots, asks, worth, bar) != len(with_lot):
            return False
    return True


def spare_of(lots, asks, day):
    """How many asks more of a day could have lots, and a bar that shows it."""
    _refuse_wrong(lots, asks)
    plan = _full_plan(lots, asks)
    spare = _fill_day(lots, asks, plan, day)
    return (spare, _bar_from(lots, asks, plan, [day]))


def first_day(lots, asks, day, *, many=COMMON):
    """The least day from one on whose spare is at least so great, or None."""
    _refuse_wrong(lots, asks)
    plan = _full_plan(lots, asks)
    # From one day on to the next the spare only grows where a lot begins.
    begins = [begin for begin, _, _ in lots if begin > day]
    for each in [day] + sorted(set(begins)):
        if _fill_day(lots, asks, list(plan), each) >= many:
            return each
    return None


class LeaveBook:
    """Lots, and asks told one by one, numbered from 0, and dropped."""

    def __init__(self, lots, *, asks=()):
        _refuse_wrong(lots, asks)
        self._lots = lots
        self._asks = dict(enumerate(asks))
        self._next = len(asks)

    def ask(self, day, *, worth=COMMON):
        """Ask for leave on a day; its number."""
        if not (_is_ask((day, worth)) and len(self._asks) < _MOST_ASKS):
            raise NoLeave("this makes no ask, or one too many")
        number = self._next
        self._asks[number] = (day, worth)
        self._next = number + 1
        return number

    def drop(self, number):
        """Take an ask away; the ask."""
        if not (is_whole(number) and number in self._asks):
            raise NoNumber(number)
        return self._asks.pop(number)

    def asks_now(self):
        """The standing asks by their numbers, rising."""
        return dict(self._asks)

    def worth_now(self):
        """The greatest worth of a plan of the standing asks."""
        return best_leave(self._lots, self._asks_told())[0]

    def papers_now(self):
        """The papers of a plan of greatest worth of the standing asks."""
        return papers_of(self._lots, self._asks_told())

    def _asks_told(self):
        return tuple(self._asks.values())

    def __eq__(self, other):
        return (isinstance(other, LeaveBook) and sorted(self._lots) == sorted(other._lots)
                and sorted(self._asks.values()) == sorted(other._asks.values()))

    def __len__(self):
        return len(self._asks)

    def __repr__(self):
        return f"LeaveBook({len(self._lots)} lots, {len(self._asks)} asks)"


def _is_row_of(thing, most):
    return type(thing) is tuple and len(thing) <= most


def _is_lot(thing):
    """Whether anything is a lot."""
    if not (type(thing) is tuple and len(thing) == 3 and all([is_whole(one) for one in thing])):
        return False
    begin, end, many = thing
    return begin < end and 1 <= many <= _MOST_MANY


def _is_ask(thing):
    """Whether anything is an ask."""
    if not (type(thing) is tuple and len(thing) == 2 and all([is_whole(one) for one in thing])):
        return False
    return 1 <= thing[1] <= _MOST_MANY


def _is_bar(thing):
    """Whether anything is a rising tuple of days."""
    return type(thing) is tuple and all([is_whole(day) for day in thing]) and is_rising(thing)


def _is_plan(lots, asks, thing):
    """Whether anything is a plan."""
    if not (type(thing) is tuple and len(thing) == len(asks)):
        return False
    room = [many for _, _, many in lots]
    for number, ask in zip(thing, asks):
        if number is None:
            continue
        if not (is_whole(number) and 0 <= number < len(lots) and _is_alive(lots[number], ask[0])):
            return False
        room[number] = room[number] - 1
    return all([many >= 0 for many in room])


def _refuse_wrong(lots, asks):
    """Refuse what are no lots, then what are no asks."""
    if not are_lots(lots):
        raise NoLeave("these are no lots")
    if not are_asks(asks):
        raise NoLeave("these are no asks")


def _is_alive(lot, day):
    return lot[0] <= day < lot[1]


def _worths_of(asks):
    return sorted(set([worth for _, worth in asks]))


def _worth_of(asks, plan):
    return sum([ask[1] for lot, ask in zip(plan, asks) if lot is not None])


def _count_of(lots, asks, worth, bar):
    """The count of a bar for a worth."""
    others = [ask for ask in asks if ask[1] >= worth and ask[0] not in bar]
    return len(others) + _many_alive(lots, bar)


def _many_alive(lots, days):
    """How many days of leave all lots have that are alive on one of some days."""
    return sum([lot[2] for lot in lots if any([_is_alive(lot, day) for day in days])])


def _best_plan(lots, asks):
    """A plan of greatest worth, as a list."""
    plan = [None] * len(asks)
    room = _room_of(lots, plan)
    for _, at in sorted([(-ask[1], at) for at, ask in enumerate(asks)]):
        plan[at] = _let_in(lots, asks, plan, asks[at][0], room)
    return plan


def _full_plan(lots, asks):
    """A plan in which all asks have lots."""
    plan = _best_plan(lots, asks)
    if None in plan:
        raise NoLeave("not all asks can have lots")
    return plan


def _room_of(lots, plan):
    """How many days of leave each lot has beyond a plan."""
    room = [many for _, _, many in lots]
    for number in plan:
        if number is not None:
            room[number] = room[number] - 1
    return room


def _let_in(lots, asks, plan, day, room):
    """The lot for one more on a day, others moved in the plan for it; None where none is."""
    came, lot = _reached(lots, asks, plan, [day], room)
    if lot is None:
        return None
    room[lot] = room[lot] - 1
    while came[lot] is not None:
        mover = came[lot]
        lot, plan[mover] = plan[mover], lot
    return lot


def _reached(lots, asks, plan, days, room):
    """Which ask moves to each lot that can be reached from some days, or None.

    Beside it the first of these with room, where there is one.
    """
    came = {}
    waiting = [(None, day) for day in days]
    while waiting:
        mover, day = waiting.pop()
        for lot in range(len(lots)):
            if lot in came or not _is_alive(lots[lot], day):
                continue
            came[lot] = mover
            if room[lot] > 0:
                return (came, lot)
            waiting.extend([(at, asks[at][0]) for at in range(len(asks)) if plan[at] == lot])
    return (came, None)


def _bar_from(lots, asks, plan, days):
    """The days that can be reached from some days, where no lot has room."""
    came, _ = _reached(lots, asks, plan, days, [0] * len(lots))
    reached = [ask[0] for lot, ask in zip(plan, asks) if lot in came]
    return tuple(sorted(set(days + reached)))


def _fill_day(lots, asks, plan, day):
    """How many more on a day can have lots; others are moved in the plan for them."""
    room = _room_of(lots, plan)
    spare = 0
    for at, lot in enumerate(lots):
        if _is_alive(lot, day):
            spare = spare + room[at]
            room[at] = 0
    # Each way moves one of the asks out of these lots for good.
    while _let_in(lots, asks, plan, day, room) is not None:
        spare = spare + 1
    return spare
