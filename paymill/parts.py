"""Parts: pairs (a, b) of whole numbers, in lowest terms, worth a by b."""

from math import gcd

from paymill.errors import NoPart

NOUGHT = (0, 1)
ONE = (1, 1)


def is_whole(thing):
    """Whether anything is a whole number: True and False are none."""
    return type(thing) is int


def is_part(thing):
    """Whether anything is a part."""
    if not (type(thing) is tuple and len(thing) == 2):
        return False
    a, b = thing
    return is_whole(a) and is_whole(b) and b >= 1 and gcd(a, b) == 1


def is_amount(thing):
    """Whether anything is a part from 0 on."""
    return is_part(thing) and thing[0] >= 0


def part(a, b=1):
    """The part a by b."""
    if b == 0:
        raise NoPart("no part is so much by nought")
    common = gcd(a, b)
    if b < 0:
        common = -common
    return (a // common, b // common)


def plus(one, other):
    """Both together."""
    return part(one[0] * other[1] + other[0] * one[1], one[1] * other[1])


def less(one, other):
    """One less the other."""
    return part(one[0] * other[1] - other[0] * one[1], one[1] * other[1])


def times(one, other):
    """One times the other."""
    return part(one[0] * other[0], one[1] * other[1])


def over(one, other):
    """One by the other."""
    return part(one[0] * other[1], one[1] * other[0])


def is_less(one, other):
    """Whether one is worth less than the other."""
    return one[0] * other[1] < other[0] * one[1]


def floor(one):
    """The greatest whole number that is no greater."""
    return one[0] // one[1]


def ceiling(one):
    """The least whole number that is no less."""
    return -(-one[0] // one[1])


def summed(some, *, start=NOUGHT):
    """Start and a row of parts together."""
    total = start
    for one in some:
        total = plus(total, one)
    return total


def least(some, *, none=None):
    """The least of a row of parts; of no parts, none."""
    if not some:
        return none
    found = some[0]
    for one in some:
        if is_less(one, found):
            found = one
    return found


def greatest(some, *, none=None):
    """The greatest of a row of parts; of no parts, none."""
    if not some:
        return none
    found = some[0]
    for one in some:
        if is_less(found, one):
            found = one
    return found


def figures(number):
    """A whole number in figures, however great it is."""
    # Python itself refuses to write numbers of some thousands of figures.
    if number < 0:
        return "-" + figures(-number)
    rests = []
    while number >= 10 ** 64:
        number, rest = divmod(number, 10 ** 64)
        rests.append(str(rest).zfill(64))
    return str(number) + "".join(rests[::-1])
