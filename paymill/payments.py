"""Payments: of totals of what is due each difference is paid once."""

from paymill.errors import NoAmount
from paymill.parts import NOUGHT, ONE, floor, is_less, is_part, least, less, plus, times


def payments(totals, *, share=ONE, whole=False):
    """Triples (now, in all, debt) of the payday of each total."""
    if not (is_part(share) and share[0] > 0 and not is_less(ONE, share)):
        raise NoAmount("a share is a part above 0, and at most one")
    found = []
    ahead = in_all = debt = NOUGHT
    for total in totals:
        new = less(total, ahead)
        kept = _kept_of(new, debt, share)
        now = less(new, kept)
        paid = in_all
        ahead, in_all, debt = total, plus(in_all, now), less(debt, kept)
        if whole:
            found.append((floor(in_all) - floor(paid), floor(in_all), debt))
        else:
            found.append((now, in_all, debt))
    return tuple(found)


def held_by(totals):
    """The number of the total that holds what is paid in all by share one, or None."""
    holder = None
    most = NOUGHT
    for number, total in enumerate(totals):
        if is_less(most, total):
            holder, most = number, total
    return holder


def payments_right(totals, thing, *, share=ONE):
    """Whether anything is the row of triples of parts that payments tells."""
    right = payments(totals, share=share)
    if not (type(thing) is tuple and all([_is_triple(one) for one in thing])):
        return False
    return thing == right


def _kept_of(new, debt, share):
    """How much of what is new isn't paid: below 0 where the debt grows by it."""
    if new[0] <= 0:
        return new
    return least((debt, times(share, new)))


def _is_triple(thing):
    """Whether anything is a triple of parts."""
    return type(thing) is tuple and len(thing) == 3 and all([is_part(one) for one in thing])
