"""What the tests share: odd things, refusals, and slow plain ways to reckon."""

import inspect
from fractions import Fraction

from paymill import errors
from paymill.days import Days
from paymill.lines import line_of
from paymill.parts import part

REFUSALS = (
    "NoAmount", "NoLine", "NoDays", "NoRule", "NoTelling", "NoStretch",
    "NoTable", "NoPot", "NoFold", "NoLeave", "NoDeed", "NoText", "NoPart",
    "NoName", "NoNumber", "TooLong", "NoCut",
)


class Contrary:
    """It raises whatever it is asked."""

    def __eq__(self, other):
        raise RuntimeError("asked ==")

    def __len__(self):
        raise RuntimeError("asked len")

    def __bool__(self):
        raise RuntimeError("asked truth")

    def __iter__(self):
        raise RuntimeError("asked to go over")

    def __getitem__(self, at):
        raise RuntimeError("asked an item")

    def __index__(self):
        raise RuntimeError("asked a number")

    def __lt__(self, other):
        raise RuntimeError("asked <")

    __hash__ = None


class Sly:
    """A key that is taken for another one, and raises where it is asked."""

    def __init__(self, key):
        self.key = key

    def __hash__(self):
        return hash(self.key)

    def __eq__(self, other):
        raise RuntimeError("asked ==")


def nested(inner, deep, kind):
    """A thing within so many tuples or lists."""
    for _ in range(deep):
        inner = kind([inner])
    return inner


def odd_things():
    """All kinds of things that are no part, no line, no Days, made anew."""
    return [
        None, True, False, 0, 1, -1, 10 ** 40, "", "a", "7:0", "(0, 1)", b"", b"01",
        (), [], {}, set(), frozenset(), range(2), [0, 1], {0: 1}, {0, 1},
        (0,), (0, 1, 2), ("0", "1"), (None, None), (None, 1), (0, None),
        (True, 1), (1, True), (False, True), (0, 0), (1, 0), (1, -1), (-1, -1),
        (0, 2), (0, -1), (2, 2), (2, 4), (-6, 4), (10 ** 30, 10 ** 30),
        ([0], [1]), ((0, 1),), ((0, 1), 1), ((), ()), ((), (0, 1)), ("ab"), ("a", 1),
        object(), object, len, odd_things, Contrary(), (Contrary(), 1), (0, Contrary()),
        (Contrary(), Contrary()), [Contrary()], iter([0, 1]), NotImplemented, ...,
        nested(0, 20, tuple), nested(0, 20, list), nested((0, 1), 18, tuple),
        ValueError("x"), errors.NoPart("x"),
    ]


def parameters(call):
    """The parameters of a call, as they are written, without self."""
    told = []
    for name, each in inspect.signature(call).parameters.items():
        star = "*" if each.kind is inspect.Parameter.KEYWORD_ONLY else ""
        default = "" if each.default is inspect.Parameter.empty else f"={each.default!r}"
        if name != "self":
            told.append(star + name + default)
    return told


def refused(test, kind, call, *args, **more):
    """The refusal with which a call is refused, by just this class."""
    try:
        told = call(*args, **more)
    except Exception as refusal:
        test.assertIs(type(refusal), kind, f"{call} {args} {more}")
        for name in REFUSALS:
            other = getattr(errors, name)
            if other is not kind:
                test.assertNotIsInstance(refusal, other)
        return refusal
    test.fail(f"{call} of {args} {more} told {told}")


def worth(one):
    return Fraction(one[0], one[1])


def as_part(fraction):
    return part(fraction.numerator, fraction.denominator)


def slow_y(line, x):
    """The y of a line at x, in fractions, by the words of 2.1."""
    knots = [(worth(one), worth(y)) for one, y in line[0]]
    if x >= knots[-1][0]:
        return knots[-1][1] + worth(line[1]) * (x - knots[-1][0])
    for (x0, y0), (x1, y1) in zip(knots, knots[1:]):
        if x0 <= x <= x1:
            return y0 + (y1 - y0) * (x - x0) / (x1 - x0)


def slow_value(course, day):
    """The value of a day, by the words of 6.2."""
    found = None
    for begin, value in course:
        if begin <= day:
            found = value
    return found


def random_part(rng, low=-30, high=30, most_b=6):
    return part(rng.randint(low, high), rng.randint(1, most_b))


def random_knots(rng, many, low=-30, high=30):
    xs = {Fraction(0)}
    while len(xs) < many:
        xs.add(Fraction(rng.randint(1, 60), rng.randint(1, 4)))
    return [(as_part(x), random_part(rng, low, high)) for x in sorted(xs)]


def random_line(rng, many=4, low=-30, high=30):
    """A normal line of at most so many knots."""
    return line_of(random_knots(rng, rng.randint(1, many), low, high), random_part(rng))


def random_leaf(rng):
    if rng.randint(0, 2) == 0:
        return ("flat", random_part(rng))
    return ("hours", random_line(rng))


def random_rule(rng, tuples, deep=12, periods=(1, 2, 3, 4, 6, 12)):
    """A rule of at most so many tuples, at most so deep."""
    word = rng.choice(("on", "on", "sum", "most", "least", "times", "leaf"))
    if tuples < 3 or deep < 2 or word == "leaf":
        return random_leaf(rng)
    if word == "times":
        return ("times", random_part(rng), random_rule(rng, tuples - 1, deep - 1, periods))
    few = rng.randint(1, tuples - 2)
    first = random_rule(rng, few, deep - 1, periods)
    second = random_rule(rng, tuples - 1 - few, deep - 1, periods)
    if word == "on":
        return ("on", random_days(rng, periods, turned=3, reach=20), first, second)
    return (word, first, second)


def slow_pay(rule, day, x):
    """What a rule pays for a day and hours, in fractions, by the words of 4.1."""
    word, *inner = rule
    if word == "flat":
        return worth(inner[0])
    if word == "hours":
        return slow_y(inner[0], x)
    if word == "on":
        return slow_pay(inner[1] if inner[0].has(day) else inner[2], day, x)
    if word == "times":
        return worth(inner[0]) * slow_pay(inner[1], day, x)
    pair = [slow_pay(each, day, x) for each in inner]
    return {"sum": sum, "most": max, "least": min}[word](pair)


def tuples_of(rule):
    """How many tuples a rule has in all, and how many within one another."""
    inner = [tuples_of(each) for each in rule[1:] if type(each) is tuple
             and each and type(each[0]) is str]
    many = 1 + sum([each[0] for each in inner])
    return many, 1 + max([each[1] for each in inner], default=0)


def chain(deep, word="sum", leaf=("flat", (1, 1))):
    """A rule with so many tuples within one another."""
    rule = leaf
    for _ in range(deep - 1):
        rule = ("times", (1, 2), rule) if word == "times" else (word, leaf, rule)
    return rule


def bush(tuples, leaf=("flat", (1, 1))):
    """A rule with so many tuples in all, not deep."""
    row = [leaf] * ((tuples + 1) // 2)
    while len(row) > 1:
        row = [("sum", *row[at:at + 2]) if at + 1 < len(row) else row[at]
               for at in range(0, len(row), 2)]
    return row[0] if tuples % 2 else ("times", (1, 3), row[0])


def random_days(rng, periods=(1, 2, 3, 4, 6, 12), turned=5, reach=30):
    period = rng.choice(periods)
    marks = rng.sample(range(period), rng.randint(0, period))
    few = rng.randint(0, turned)
    return Days(period, marks, turned=rng.sample(range(-reach, reach), few))
