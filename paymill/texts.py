"""Texts of rules: words with one blank between, just one text for each rule."""

from paymill.days import Days
from paymill.errors import NoDays, NoRule, NoText
from paymill.lines import is_line
from paymill.parts import NOUGHT, ONE, figures, part
from paymill.rules import MOST_TUPLES, MOST_WITHIN, SHAPES, is_rule

_MOST_FIGURES = 400


def part_text(one):
    """The text of a part."""
    if one[1] == 1:
        return figures(one[0])
    return f"{figures(one[0])}/{figures(one[1])}"


def line_text(line):
    """The text of a line: its knots, a blank, its slope."""
    knots, slope = line
    written = ",".join([f"{part_text(x)}:{part_text(y)}" for x, y in knots])
    return f"{written} {part_text(slope)}"


def rule_text(rule):
    """The text of a rule."""
    if not is_rule(rule):
        raise NoRule("this is no rule")
    return _text_of("rule", rule)


def read_part(text):
    """The part that a text writes."""
    return _read(text, ["part"])[0]


def read_days(text):
    """The Days that a text writes."""
    return _read(text, ["days"])[0]


def read_line(text):
    """The line that a text writes."""
    return _read(text, ["line"])[0]


def read_rule(text):
    """The rule that a text writes."""
    return _rule_of(_read(text, ["rule"]))


def _text_of(kind, thing):
    if kind == "part":
        return part_text(thing)
    if kind == "line":
        return line_text(thing)
    if kind == "days":
        return str(thing)
    inner = [_text_of(each, one) for each, one in zip(SHAPES[thing[0]], thing[1:])]
    return " ".join([thing[0], *inner])


def _read(text, kinds):
    """What a text bears, in order: its rules' words, parts, days and lines."""
    words = text.split(" ")
    wanted = _wanted_of(kinds, 1)
    found = []
    rules = 0
    for at, word in enumerate(words):
        if len(wanted) == 0:
            raise NoText(at)
        want, deep = wanted.pop()
        value = _value_of(word, want, found)
        if value is None:
            raise NoText(at)
        if want == "slope":
            # The line takes the place of its knots.
            found[-1] = value
            continue
        found.append(value)
        if want == "rule":
            rules = rules + 1
            wanted.extend(_wanted_of(SHAPES[word], deep + 1))
            if not _can_end(wanted, rules):
                raise NoText(at)
    if len(wanted) > 0:
        raise NoText(len(words))
    return found


def _wanted_of(kinds, deep):
    """What words are wanted for some kinds of things, the first one last.

    With each stands how many rules it is within, where it is a rule itself
    counted.
    """
    wanted = []
    for kind in kinds:
        if kind == "line":
            wanted.extend([("knots", deep), ("slope", deep)])
        else:
            wanted.append((kind, deep))
    return wanted[::-1]


def _can_end(wanted, rules):
    """Whether there is a rule of what is wanted yet and so many rules ahead."""
    deeps = [deep for want, deep in wanted if want == "rule"]
    return rules + len(deeps) <= MOST_TUPLES and max(deeps, default=0) <= MOST_WITHIN


def _value_of(word, want, found):
    """What a word bears behind what was found ahead; None where it can't stand."""
    if want == "rule":
        return word if word in SHAPES else None
    if want == "part":
        return _part_of(word)
    if want == "days":
        return _days_of(word)
    if want == "knots":
        return _knots_of(word)
    line = (found[-1], _part_of(word))
    return line if is_line(line) else None


def _number_of(word):
    """The whole number that a word writes, perhaps with noughts ahead, or None."""
    plain = word.removeprefix("-")
    if not (plain.isascii() and plain.isdigit() and len(plain) <= _MOST_FIGURES):
        return None
    return int(word)


def _numbers_of(word):
    """What a word writes with commas between, each as _number_of tells."""
    if word == "":
        return []
    return [_number_of(each) for each in word.split(",")]


def _part_of(word):
    """The part that a word writes; None where it writes none."""
    first, slash, second = word.partition("/")
    a, b = _number_of(first), _number_of(second if slash else "1")
    if a is None or b is None or b == 0:
        return None
    one = part(a, b)
    return one if part_text(one) == word else None


def _days_of(word):
    """The Days that a word writes; None where it writes none."""
    period, _, behind = word.partition(":")
    marks, _, turned = behind.partition(";")
    try:
        days = Days(_number_of(period), _numbers_of(marks), turned=_numbers_of(turned))
    except NoDays:
        return None
    # Only the normal form is written so.
    return days if str(days) == word else None


def _knots_of(word):
    """The knots of some line that a word writes; None where it writes none."""
    knots = []
    for each in word.split(","):
        x, _, y = each.partition(":")
        knots.append((_part_of(x), _part_of(y)))
    row = tuple(knots)
    # There is at most one slope by which it goes straight on at the last
    # knot: of two at least one doesn't.
    return row if is_line((row, NOUGHT)) or is_line((row, ONE)) else None


def _rule_of(values):
    """The rule that bears these values, in order."""
    made = []
    for value in values[::-1]:
        if type(value) is str:
            few = len(SHAPES[value])
            inner = made[::-1][:few]
            del made[-few:]
            made.append((value, *inner))
        else:
            made.append(value)
    return made[0]
