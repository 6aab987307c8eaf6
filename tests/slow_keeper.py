"""A slow plain keeper, by the words of stage 13: day by day, event by event.

It bears the rules themselves, reckons in fractions, and does each row of deeds
on a copy of all that there is.
"""

from fractions import Fraction
from math import lcm

from common import as_part, slow_pay, worth
from paymill.days import MOST_PERIOD
from paymill.errors import (
    NoAmount, NoCut, NoDeed, NoName, NoNumber, NoRule, NoStretch, NoTelling, TooLong,
)
from paymill.parts import is_amount
from paymill.rules import is_rule

LETTERS = "abcdefghijklmnopqrstuvwxyz"
SIZES = {"rule": 5, "rank": 5, "hours": 5, "withdraw": 2, "payday": 2}


def is_int(thing):
    return type(thing) is int


def is_word(thing):
    return type(thing) is str and 1 <= len(thing) <= 8 and all([sign in LETTERS for sign in thing])


def period_of(rule):
    """The least number that the periods of all days in a rule divide."""
    if rule[0] == "on":
        return lcm(rule[1].period, period_of(rule[2]), period_of(rule[3]))
    inner = [period_of(each) for each in rule[1:] if type(each) is tuple and each and type(each[0]) is str]
    return lcm(1, *inner)


class SlowKeeper:
    def __init__(self, share=Fraction(1), begin=0):
        self.share = share
        self.begin = begin
        self.told = []
        self.cuts = []
        self.past = []
        self.calls = []

    # What stands, day by day.

    def holder(self, word, name, day, known):
        """What was told last of those that cover a day and aren't withdrawn."""
        events = self.told[:known]
        gone = [event[1] for event in events if event[0] == "withdraw"]
        found = None
        for number, event in enumerate(events):
            if event[:2] == (word, name) and number not in gone and event[2] <= day and (
                    event[3] is None or day < event[3]):
                found = event[4]
        return found

    def due_on(self, name, day, known):
        rank = self.holder("rank", name, day, known)
        hours = self.holder("hours", name, day, known)
        rule = None if rank is None else self.holder("rule", rank, day, known)
        return Fraction(0) if rule is None or hours is None else slow_pay(rule, day, worth(hours))

    def total(self, name, one, other, known=None):
        known = len(self.told) if known is None else known
        return sum([self.due_on(name, day, known) for day in range(one, other)], Fraction(0))

    def people(self):
        return tuple(sorted({event[1] for event in self.told if event[0] in ("rank", "hours")}))

    # Deeds.

    def one(self, deed):
        """Do a deed alone."""
        ahead = (list(self.told), list(self.cuts))
        answer = self.do(deed)
        self.past.append(ahead)
        return answer

    def row(self, deeds):
        self.calls.append(("all", "in"))
        ahead = (list(self.told), list(self.cuts))
        try:
            if type(deeds) not in (tuple, list):
                raise NoDeed("no row")
            answers = tuple([self.do(deed) for deed in deeds])
            self.past.append(ahead)
            return answers
        except Exception:
            self.told, self.cuts = ahead
            raise
        finally:
            self.calls.append(("all", "out"))

    def back(self):
        self.calls.append(("back", "in"))
        self.calls.append(("back", "out"))
        if not self.past:
            raise NoDeed("nothing")
        self.told, self.cuts = self.past.pop()

    def do(self, deed):
        if type(deed) is not tuple or not deed or type(deed[0]) is not str:
            raise NoDeed("no deed")
        if SIZES.get(deed[0]) != len(deed):
            raise NoDeed("no deed")
        self.calls.append((deed[0], "in"))
        self.calls.append((deed[0], "out"))
        if deed[0] == "payday":
            return self.payday(deed[1])
        self.check(deed)
        self.told.append(deed)
        return len(self.told) - 1

    def check(self, deed):
        """Refuse a deed, by the words of the interface."""
        if deed[0] == "withdraw":
            number = deed[1]
            if not is_int(number) or not 0 <= number < len(self.told):
                raise NoNumber(number)
            if self.told[number][0] == "withdraw" or ("withdraw", number) in self.told:
                raise NoNumber(number)
            return
        word, name, begin, end, value = deed
        for each in (name, value)[:2 if word == "rank" else 1]:
            if not is_word(each):
                raise NoName(each)
        if not is_int(begin) or (end is not None and (not is_int(end) or end <= begin)):
            raise NoTelling("no telling")
        if word == "rule":
            if not is_rule(value):
                raise NoRule("no rule")
            if period_of(value) > MOST_PERIOD:
                raise TooLong(period_of(value))
        if word == "hours" and not is_amount(value):
            raise NoAmount("no hours")

    def payday(self, cut):
        first = self.cuts[-1][0] if self.cuts else self.begin
        if not is_int(cut) or cut < first:
            raise NoCut(first)
        totals = {name: self.total(name, self.begin, cut) for name in self.people()}
        self.cuts.append((cut, len(self.told), totals))
        rows = []
        for name in sorted(totals):
            now, _, debt = self.paid(name)[-1]
            rows.append((name, as_part(totals[name]), as_part(now), as_part(debt)))
        return tuple(rows)

    def paid(self, name):
        """Triples of a person's paydays, total by total, by the words of 8.1."""
        ahead, in_all, debt, found = Fraction(0), Fraction(0), Fraction(0), []
        for _, _, totals in self.cuts:
            if name not in totals:
                continue
            new = totals[name] - ahead
            ahead = totals[name]
            kept = new if new <= 0 else min(debt, self.share * new)
            now = Fraction(0) if new <= 0 else new - kept
            debt -= kept
            in_all += now
            found.append((now, in_all, debt))
        return found

    # What is asked.

    def check_person(self, name):
        if type(name) is not str or name not in self.people():
            raise NoName(name)

    def due(self, name, one, other, known=None):
        self.check_person(name)
        if not is_int(one) or not is_int(other) or other < one:
            raise NoStretch("no stretch")
        if known is not None and (not is_int(known) or not 0 <= known <= len(self.told)):
            raise NoNumber(known)
        return as_part(self.total(name, one, other, known))

    def account(self, name):
        self.check_person(name)
        rows = self.paid(name)
        return (as_part(rows[-1][1]), as_part(rows[-1][2])) if rows else ((0, 1), (0, 1))

    def explained(self, name):
        self.check_person(name)
        if not self.cuts or name not in self.cuts[-1][2]:
            return ()
        cut, many, _ = self.cuts[-1]
        ahead, known = (self.begin, 0) if len(self.cuts) < 2 else self.cuts[-2][:2]
        found = [(None, self.total(name, ahead, cut, known))]
        for number in range(known, many):
            found.append((number, self.total(name, self.begin, cut, number + 1)
                          - self.total(name, self.begin, cut, number)))
        return tuple([(number, as_part(one)) for number, one in found if one])

    def paydays(self):
        return tuple([(cut, many) for cut, many, _ in self.cuts])
