"""Rules: trees of tuples that pay for a day and hours."""

from paymill.days import Days
from paymill.errors import NoAmount, NoRule
from paymill.lines import is_line, y_at
from paymill.parts import greatest, is_part, least, plus, times

# What a rule's tuple bears behind its word, and a rule's text likewise.
SHAPES = {
    "flat": ("part",),
    "hours": ("line",),
    "on": ("days", "rule", "rule"),
    "sum": ("rule", "rule"),
    "most": ("rule", "rule"),
    "least": ("rule", "rule"),
    "times": ("part", "rule"),
}
MOST_TUPLES = 40
MOST_WITHIN = 12


def is_rule(thing):
    """Whether anything is a rule."""
    waiting = [(thing, 1)]
    many = 0
    while waiting:
        one, deep = waiting.pop()
        many = many + 1
        # What stands in a rule twice counts twice: it may be one object that
        # stands there far oftener than can be gone through.
        if many > MOST_TUPLES or deep > MOST_WITHIN or not _is_shaped(one):
            return False
        waiting.extend([(inner, deep + 1) for inner in rules_in(one)])
    return True


def pay_of(rule, day, hours):
    """What a rule pays for a day and hours."""
    if not is_rule(rule):
        raise NoRule("this is no rule")
    if hours[0] < 0:
        raise NoAmount("hours are nought or more")
    return _pay(rule, day, hours)


def rules_in(rule):
    """The rules that a rule's own tuple bears, in order."""
    return [inner for kind, inner in zip(SHAPES[rule[0]], rule[1:]) if kind == "rule"]


def _is_shaped(thing):
    """Whether anything is a rule's tuple, whatever stands for the rules in it."""
    if not (type(thing) is tuple and len(thing) >= 1 and type(thing[0]) is str):
        return False
    shape = SHAPES.get(thing[0], None)
    if shape is None or len(thing) != len(shape) + 1:
        return False
    return all([_is_of_kind(inner, kind) for kind, inner in zip(shape, thing[1:])])


def _is_of_kind(thing, kind):
    if kind == "part":
        return is_part(thing)
    if kind == "line":
        return is_line(thing)
    if kind == "days":
        return type(thing) is Days
    return True


def _pay(rule, day, hours):
    word = rule[0]
    if word == "flat":
        return rule[1]
    if word == "hours":
        return y_at(rule[1], hours)
    if word == "on":
        return _pay(rule[2] if rule[1].has(day) else rule[3], day, hours)
    if word == "times":
        return times(rule[1], _pay(rule[2], day, hours))
    first, second = _pay(rule[1], day, hours), _pay(rule[2], day, hours)
    if word == "sum":
        return plus(first, second)
    if word == "most":
        return greatest((first, second))
    return least((first, second))
