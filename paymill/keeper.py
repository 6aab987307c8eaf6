"""The keeper: facts told late, withdrawn, told anew, and paydays between.

What stands is a pair (events, paydays) of rows. An event is a tuple of its
word and what was told, a rule's as its sheet; a payday a triple (cut, how
many events were told then, a dict from names to totals). A deed makes a new
pair and leaves the one ahead as it is, so that all can be as ahead of it.
"""

from paymill.dues import due_between
from paymill.errors import NoAmount, NoCut, NoDeed, NoName, NoNumber, NoStretch, NoTelling
from paymill.names import is_name
from paymill.parts import NOUGHT, ONE, is_amount, is_whole, less
from paymill.payments import payments
from paymill.sheets import sheet_of
from paymill.tellings import course_of, is_telling

# How many things stand in the tuple of each deed.
_LENGTHS = {"rule": 5, "rank": 5, "hours": 5, "withdraw": 2, "payday": 2}


class PayKeeper:
    """Who tells what is due, as known, and pays each difference once."""

    def __init__(self, *, share=ONE, begin=0):
        # A wrong share is refused there.
        payments((), share=share)
        self._share = share
        self._begin = begin
        self._state = ((), ())
        self._past = []
        self._log = []

    def set_rule(self, rank, begin, end, rule):
        """Tell a rank's rule; the event's number."""
        return self._done_alone(("rule", rank, begin, end, rule))

    def set_rank(self, name, begin, end, rank):
        """Tell a person's rank; the event's number."""
        return self._done_alone(("rank", name, begin, end, rank))

    def set_hours(self, name, begin, end, hours):
        """Tell a person's hours a day; the event's number."""
        return self._done_alone(("hours", name, begin, end, hours))

    def withdraw(self, number):
        """Withdraw a telling; the event's number."""
        return self._done_alone(("withdraw", number))

    def payday(self, cut):
        """Pay all that is due ahead of a cut: quadruples (name, total, now, debt)."""
        return self._done_alone(("payday", cut))

    def back(self):
        """Undo the last deed, row or payday."""
        self._log.append(("back", "in"))
        try:
            if len(self._past) == 0:
                raise NoDeed("nothing is left to undo")
            self._state = self._past.pop()
        finally:
            self._log.append(("back", "out"))

    def all_of(self, deeds):
        """Do a row of deeds, all or none; the row of their answers."""
        self._log.append(("all", "in"))
        try:
            if type(deeds) not in (list, tuple):
                raise NoDeed("this is no row of deeds")
            state = self._state
            answers = []
            for deed in deeds:
                state, answer = self._behind(state, deed)
                answers.append(answer)
            self._keep(state)
            return tuple(answers)
        finally:
            self._log.append(("all", "out"))

    def due(self, name, one, other, *, known=None):
        """What is due of a stretch, by all events or as known behind the first so many."""
        events, _ = self._state
        _refuse_no_person(events, name)
        if not (is_whole(one) and is_whole(other) and one <= other):
            raise NoStretch("a stretch is of days, and ends no earlier than it begins")
        if known is None:
            return _due(events, name, one, other)
        if not (is_whole(known) and 0 <= known <= len(events)):
            raise NoNumber(known)
        return _due(events[:known], name, one, other)

    def account(self, name):
        """What is paid in all and the debt, as behind the last payday."""
        events, paydays = self._state
        _refuse_no_person(events, name)
        rows = payments(_totals_of(paydays, name), share=self._share)
        return rows[-1][1:] if rows else (NOUGHT, NOUGHT)

    def explained(self, name):
        """Pairs (number, part): what is new at the last payday, by the events that made it."""
        events, paydays = self._state
        _refuse_no_person(events, name)
        if len(_totals_of(paydays, name)) == 0:
            return ()
        cut, many, _ = paydays[-1]
        cut_ahead, known = paydays[-2][:2] if len(paydays) > 1 else (self._begin, 0)
        found = [(None, _due(events[:known], name, cut_ahead, cut))]
        without = _due(events[:known], name, self._begin, cut)
        for number in range(known, many):
            within = _due(events[:number + 1], name, self._begin, cut)
            found.append((number, less(within, without)))
            without = within
        return tuple([pair for pair in found if pair[1] != NOUGHT])

    def events(self):
        """How many events there are."""
        return len(self._state[0])

    def paydays(self):
        """Pairs (cut, how many events were told then)."""
        return tuple([payday[:2] for payday in self._state[1]])

    def people(self):
        """The names of those who are there, rising."""
        return _people_of(self._state[0])

    def log(self):
        """Pairs (word, end) of all calls of deeds."""
        return tuple(self._log)

    def _done_alone(self, deed):
        """Do one deed; its answer."""
        state, answer = self._behind(self._state, deed)
        self._keep(state)
        return answer

    def _keep(self, state):
        """Let a pair stand, and that ahead of it be what can be gone back to."""
        self._past.append(self._state)
        self._state = state

    def _behind(self, state, deed):
        """What stands behind a deed, and its answer."""
        if not _is_deed(deed):
            raise NoDeed("this is no deed")
        word = deed[0]
        self._log.append((word, "in"))
        try:
            events, paydays = state
            if word == "payday":
                return self._behind_payday(events, paydays, deed[1])
            return ((events + (_event_of(events, deed),), paydays), len(events))
        finally:
            self._log.append((word, "out"))

    def _behind_payday(self, events, paydays, cut):
        """What stands behind a payday, and its answer."""
        first = paydays[-1][0] if paydays else self._begin
        if not (is_whole(cut) and cut >= first):
            raise NoCut(first)
        totals = {name: _due(events, name, self._begin, cut) for name in _people_of(events)}
        paydays = paydays + ((cut, len(events), totals),)
        answer = []
        for name, total in totals.items():
            rows = payments(_totals_of(paydays, name), share=self._share)
            now, _, debt = rows[-1]
            answer.append((name, total, now, debt))
        return ((events, paydays), tuple(answer))


def _is_deed(thing):
    """Whether anything is a deed by its word and length."""
    if not (type(thing) is tuple and len(thing) >= 1 and type(thing[0]) is str):
        return False
    return _LENGTHS.get(thing[0], 0) == len(thing)


def _refuse_no_name(thing):
    if not is_name(thing):
        raise NoName(thing)


def _refuse_no_person(events, thing):
    """Refuse anything that isn't the name of one who is there."""
    if not (type(thing) is str and thing in _people_of(events)):
        raise NoName(thing)


def _event_of(events, deed):
    """The event that a deed makes behind some events."""
    if deed[0] == "withdraw":
        _refuse_not_standing(events, deed[1])
        return deed
    word, name, begin, end, value = deed
    _refuse_no_name(name)
    if word == "rank":
        _refuse_no_name(value)
    if not is_telling((begin, end, word)):
        raise NoTelling("a telling has a begin and no end or a later one")
    if word == "rule":
        return (word, name, begin, end, sheet_of(value))
    if word == "hours" and not is_amount(value):
        raise NoAmount("hours are an amount")
    return deed


def _refuse_not_standing(events, thing):
    """Refuse anything that isn't the number of a telling that stands."""
    if not (is_whole(thing) and 0 <= thing < len(events)):
        raise NoNumber(thing)
    if events[thing][0] == "withdraw" or ("withdraw", thing) in _withdrawals(events):
        raise NoNumber(thing)


def _withdrawals(events):
    return [event for event in events if event[0] == "withdraw"]


def _standing(events):
    """The tellings that aren't withdrawn, in order."""
    gone = [number for _, number in _withdrawals(events)]
    return [event for number, event in enumerate(events)
            if event[0] != "withdraw" and number not in gone]


def _people_of(events):
    """The names of those whose rank or hours were told, rising."""
    return tuple(sorted(set([event[1] for event in events if event[0] in ("rank", "hours")])))


def _course(standing, word, name):
    """The course of what was told of a rank or a person by a word."""
    return course_of([event[2:] for event in standing if event[0] == word and event[1] == name])


def _due(events, name, one, other):
    """What is due to a person of a stretch, by some events alone."""
    standing = _standing(events)
    ranks = sorted(set([event[1] for event in standing if event[0] == "rule"]))
    book = {rank: _course(standing, "rule", rank) for rank in ranks}
    person = (_course(standing, "rank", name), _course(standing, "hours", name))
    return due_between(book, person, one, other)


def _totals_of(paydays, name):
    """A person's totals at the paydays that found it there."""
    return [totals[name] for _, _, totals in paydays if name in totals]
