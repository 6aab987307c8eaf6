"""The desk: a keeper that is told lines, and answers by texts.

A line is read in two goes: first by its words, then a rule's TEXT. So what is
no line, or no rule, is known ahead of any deed.
"""

from paymill.errors import NoDeed, NoText
from paymill.keeper import PayKeeper
from paymill.parts import ONE
from paymill.texts import part_text, read_part, read_rule

# What stands behind the word of each line.
_DEEDS = {
    "rule": ("name", "day", "end", "text"),
    "rank": ("name", "day", "end", "name"),
    "hours": ("name", "day", "end", "part"),
    "withdraw": ("number",),
    "payday": ("day",),
}
_QUESTIONS = {
    "due": ("name", "day", "day"),
    "account": ("name",),
    "explained": ("name",),
    "people": (),
    "log": (),
    "back": (),
}
_DUE_AS_KNOWN = ("name", "day", "day", "known", "number")
_MOST_FIGURES = 19
_NOTHING = "none"


class Desk:
    """Whom lines are told, and who counts them."""

    def __init__(self, *, share=ONE, begin=0):
        self._keeper = PayKeeper(share=share, begin=begin)
        self._told = 0
        self._refused = 0

    def say(self, line):
        """The answer to a line."""
        self._told = self._told + 1
        # It counts as refused until there is an answer, whatever refuses it.
        self._refused = self._refused + 1
        answer = _answer_to(self._keeper, line)
        self._refused = self._refused - 1
        return answer

    def counts(self):
        """How many were told, and how many of them refused."""
        return (self._told, self._refused)

    def __len__(self):
        return len(range(self._told))

    def __repr__(self):
        return f"Desk({self._told} told, {self._refused} refused)"


def _answer_to(keeper, line):
    if type(line) is not str:
        raise NoDeed("a line is a text")
    word, _, behind = line.partition(" ")
    if word == "all":
        deeds = [_deed_of(each) for each in behind.split(" ; ")]
        answers = keeper.all_of([_read_through(deed) for deed in deeds])
        return " ; ".join([_deed_text(answer) for answer in answers])
    if word in _DEEDS:
        return _deed_text(_done(keeper, _read_through(_deed_of(line))))
    return _asked(keeper, line.split(" "))


def _deed_of(line):
    """The deed that a line tells by its words, a rule yet as its TEXT."""
    # A TEXT may have blanks, or no sign at all.
    words = line.split(" ", 4) if line.startswith("rule ") else line.split(" ")
    return (words[0], *_values_of(words, _DEEDS.get(words[0], None)))


def _read_through(deed):
    """The deed with its rule's TEXT read."""
    if deed[0] != "rule":
        return deed
    word, rank, begin, end, text = deed
    return (word, rank, begin, end, read_rule(text))


def _done(keeper, deed):
    """A deed's answer."""
    word, *told = deed
    if word == "rule":
        return keeper.set_rule(*told)
    if word == "rank":
        return keeper.set_rank(*told)
    if word == "hours":
        return keeper.set_hours(*told)
    if word == "withdraw":
        return keeper.withdraw(*told)
    return keeper.payday(*told)


def _asked(keeper, words):
    """The answer to a line that is no deed of a row."""
    word = words[0]
    as_known = word == "due" and len(words) > len(_DUE_AS_KNOWN)
    told = _values_of(words, _DUE_AS_KNOWN if as_known else _QUESTIONS.get(word, None))
    if word == "due":
        known = told[-1] if as_known else None
        return part_text(keeper.due(told[0], told[1], told[2], known=known))
    if word == "account":
        return " ".join([part_text(one) for one in keeper.account(told[0])])
    if word == "explained":
        pairs = keeper.explained(told[0])
        return " ".join([_explained_text(number, one) for number, one in pairs]) or _NOTHING
    if word == "people":
        return " ".join(keeper.people()) or _NOTHING
    if word == "log":
        return " ".join([f"{each}:{end}" for each, end in keeper.log()]) or _NOTHING
    keeper.back()
    return "ok"


def _values_of(words, kinds):
    """What the words behind the first one tell."""
    if kinds is None or len(words) != len(kinds) + 1:
        raise NoDeed("this is no line by its words")
    return [_value_of(word, kind) for word, kind in zip(words[1:], kinds)]


def _value_of(word, kind):
    """What a word tells that is to be of a kind."""
    if kind == "text":
        return word
    if kind == "end" and word == "-":
        return None
    if kind == "part":
        return _part_of(word)
    if kind == "name" and word != "":
        return word
    if kind == "known" and word == "known":
        return word
    if kind in ("day", "end") or (kind == "number" and not word.startswith("-")):
        return _day_of(word)
    raise NoDeed("this word can't stand here")


def _day_of(word):
    """The day that a word writes."""
    plain = word.removeprefix("-")
    if plain.isascii() and plain.isdigit() and len(plain) <= _MOST_FIGURES:
        day = int(word)
        # No nought stands ahead of others, nor `-` ahead of nought.
        if str(day) == word:
            return day
    raise NoDeed("this is no day")


def _part_of(word):
    """The part that a word writes."""
    try:
        return read_part(word)
    except NoText:
        raise NoDeed("this is no part") from None


def _deed_text(answer):
    """The text of a deed's answer: an event's number, or a payday's row."""
    if type(answer) is int:
        return str(answer)
    return ", ".join([_paid_text(row) for row in answer]) or _NOTHING


def _paid_text(row):
    name, *told = row
    return " ".join([name] + [part_text(one) for one in told])


def _explained_text(number, one):
    # The days gone by have no event.
    event = "-" if number is None else str(number)
    return f"{event}:{part_text(one)}"
