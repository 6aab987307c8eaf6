import random
import time
import unittest
from fractions import Fraction

from common import (
    Contrary, as_part, bush, chain, odd_things, parameters, random_part, random_rule, refused, worth,
)
from paymill.days import Days
from paymill.errors import (
    NoAmount, NoCut, NoDeed, NoName, NoNumber, NoRule, NoStretch, NoTelling, TooLong,
)
from paymill.keeper import PayKeeper
from paymill.parts import NOUGHT, ONE, is_amount, is_part, part, plus
from paymill.rules import is_rule
from slow_keeper import SlowKeeper, is_word

FAR = 10 ** 18
HALF = part(1, 2)
PAID = ("flat", ONE)
LONG_RULE = ("on", Days(5040, (0,)), ("on", Days(5039, (0,)), PAID, PAID), PAID)
NAMES = ("al", "bob", "eve")
RANKS = ("cook", "clerk")


def paid_keeper(**more):
    """One who is paid one a day from day 0 on."""
    keeper = PayKeeper(**more)
    keeper.set_rule("cook", -FAR, None, PAID)
    keeper.set_rank("bob", -FAR, None, "cook")
    keeper.set_hours("bob", 0, None, ONE)
    return keeper


def do(keeper, deed):
    """Do a deed by its method."""
    word, *told = deed
    call = {"rule": keeper.set_rule, "rank": keeper.set_rank, "hours": keeper.set_hours,
            "withdraw": keeper.withdraw, "payday": keeper.payday}[word]
    return call(*told)


def numbers(*rows):
    return tuple([tuple([part(each) if type(each) in (int, Fraction) and at > 0 else each
                         for at, each in enumerate(row)]) for row in rows])


def all_told(keeper, names=NAMES):
    """All that a keeper tells."""
    people = keeper.people()
    told = [keeper.events(), keeper.paydays(), people]
    for name in names:
        if name in people:
            told.append((name, keeper.account(name), keeper.explained(name)))
            told.extend([keeper.due(name, -9, 30), keeper.due(name, 3, 8, known=keeper.events() // 2)])
    return told


def told_or_refused(call, *args, **more):
    """What a call tells, or its refusal's class and what it bears."""
    try:
        return ("told", call(*args, **more))
    except Exception as refusal:
        return (type(refusal), vars(refusal))


def random_stretch(rng):
    begin = rng.randint(-6, 20)
    return begin, rng.choice((None, begin + rng.randint(1, 15), begin + 1))


def random_deed(rng, keeper, wrong=True):
    """A deed, at times one that is refused."""
    begin, end = random_stretch(rng)
    word = rng.choice(("rule", "rank", "rank", "hours", "hours", "withdraw", "payday", "payday"))
    if wrong and rng.randint(0, 9) == 0:
        begin, end = rng.choice(((3, 3), (5, 2), (None, 3), (True, 9), ("1", None)))
    if word == "rule":
        rule = random_rule(rng, rng.randint(1, 5), periods=(1, 2, 3, 7))
        return ("rule", rng.choice(RANKS), begin, end, rule if rng.randint(0, 9) else rng.choice((LONG_RULE, ())))
    if word == "rank":
        return ("rank", rng.choice(NAMES), begin, end, rng.choice(RANKS + ("none",)))
    if word == "hours":
        return ("hours", rng.choice(NAMES), begin, end, random_part(rng, -1 if wrong else 0, 12))
    if word == "withdraw":
        return ("withdraw", rng.randint(-1 if wrong else 0, keeper.events()))
    last = keeper.paydays()[-1][0] if keeper.paydays() else 0
    return ("payday", last + rng.choice((-1, 0, 0, 1, 3, 7) if wrong else (0, 1, 3, 7)))


def base_deeds(rng):
    """Deeds by which most days have a rank, its rule and hours."""
    deeds = [("rule", rank, -5, None, random_rule(rng, 4, periods=(1, 2, 7))) for rank in RANKS]
    for name in NAMES[:2]:
        deeds.extend([("rank", name, rng.randint(-6, 3), None, rng.choice(RANKS)),
                      ("hours", name, rng.randint(-6, 3), None, random_part(rng, 1, 12))])
    return deeds


class EventsTest(unittest.TestCase):
    def test_numbers(self):
        keeper = PayKeeper()
        self.assertEqual(keeper.events(), 0)
        self.assertEqual(keeper.set_rule("cook", 0, None, PAID), 0)
        self.assertEqual(keeper.set_rank("bob", 0, 9, "cook"), 1)
        self.assertEqual(keeper.set_hours("bob", 0, 9, ONE), 2)
        self.assertEqual(keeper.withdraw(1), 3)
        self.assertEqual(keeper.set_rank(rank="cook", end=None, begin=5, name="bob"), 4)
        self.assertEqual(keeper.set_rule(rule=PAID, end=7, begin=5, rank="clerk"), 5)
        self.assertEqual(keeper.set_hours(hours=HALF, end=7, begin=5, name="al"), 6)
        self.assertEqual(keeper.withdraw(number=0), 7)
        self.assertEqual(keeper.events(), 8)

    def test_people(self):
        keeper = PayKeeper()
        self.assertEqual(keeper.people(), ())
        keeper.set_rule("cook", 0, None, PAID)
        self.assertEqual(keeper.people(), ())
        keeper.set_hours("eve", 0, 1, NOUGHT)
        keeper.set_rank("bob", 0, 1, "none")
        self.assertEqual(keeper.people(), ("bob", "eve"))
        keeper.withdraw(1)
        self.assertEqual(keeper.people(), ("bob", "eve"))
        self.assertEqual((keeper.due("eve", -5, 5), keeper.account("eve")), (NOUGHT, (NOUGHT, NOUGHT)))
        keeper.back()
        keeper.back()
        self.assertEqual(keeper.people(), ("eve",))

    def test_dues_as_known(self):
        keeper = PayKeeper()
        keeper.set_rule("cook", 0, 20, ("hours", ((((0, 1), (0, 1)),), (2, 1))))
        keeper.set_rank("bob", -10, None, "cook")
        keeper.set_hours("bob", -5, None, part(3))
        self.assertEqual(keeper.due("bob", -50, 50), part(120))
        keeper.set_hours("bob", 5, 10, part(4))
        keeper.set_rank("bob", 8, 12, "boss")
        self.assertEqual(keeper.due("bob", -50, 50), part(120 + 3 * 2 - 4 * 6))
        keeper.withdraw(4)
        self.assertEqual(keeper.due("bob", -50, 50), part(130))
        keeper.withdraw(0)
        self.assertEqual(keeper.due("bob", -50, 50), NOUGHT)
        keeper.set_rule("cook", -3, 3, PAID)
        self.assertEqual([keeper.due("bob", -50, 50, known=known) for known in range(9)],
                         [part(due) for due in (0, 0, 0, 120, 130, 102, 130, 0, 6)])
        self.assertEqual(keeper.due(known=3, other=1, one=0, name="bob"), part(6))
        self.assertEqual(keeper.due("bob", 3, 3), NOUGHT)
        self.assertEqual(keeper.due("bob", -3, -2), ONE)

    def test_far_and_for_ever(self):
        keeper = paid_keeper()
        self.assertEqual(keeper.due("bob", 0, 10 ** 12), part(10 ** 12))
        self.assertEqual(keeper.due("bob", FAR, 2 * FAR), part(FAR))
        self.assertEqual(keeper.payday(FAR), numbers(("bob", FAR, FAR, 0)))

    def test_refused(self):
        keeper = paid_keeper()
        before = all_told(keeper)
        odd = odd_things() + ["A", "abcdefghi", "a b", "bob1", ("bob",)]
        for thing in odd:
            if not is_word(thing):
                for call, more in ((keeper.set_rule, (5, 3, None)), (keeper.set_rank, (5, 3, None)),
                                   (keeper.set_rank, (0, 9, "cook")), (keeper.set_hours, (5, 3, None))):
                    self.assertTrue(refused(self, NoName, call, thing, *more).name is thing)
                self.assertTrue(refused(self, NoName, keeper.set_rank, "al", 5, 3, thing).name is thing)
                self.assertTrue(refused(self, NoName, keeper.set_rank, "al", 0, None, thing).name is thing)
            for begin, end in ((thing, None), (thing, 10 ** 50), (0, thing), (0, 0), (5, 4)):
                if type(begin) is int and (end is None or (type(end) is int and begin < end)):
                    continue
                refused(self, NoTelling, keeper.set_rule, "cook", begin, end, None)
                refused(self, NoTelling, keeper.set_rank, "bob", begin, end, "cook")
                refused(self, NoTelling, keeper.set_hours, "bob", begin, end, None)
            if not is_rule(thing):
                refused(self, NoRule, keeper.set_rule, "cook", 0, None, thing)
            if not is_amount(thing):
                refused(self, NoAmount, keeper.set_hours, "bob", 0, None, thing)
        refused(self, NoAmount, keeper.set_hours, "bob", 0, None, (-1, 2))
        for rule in (bush(41), chain(13)):
            refused(self, NoRule, keeper.set_rule, "cook", 0, None, rule)
        self.assertEqual(refused(self, TooLong, keeper.set_rule, "cook", 0, None, LONG_RULE).many, 5040 * 5039)
        self.assertEqual(all_told(keeper), before)
        self.assertEqual(keeper.set_hours("al", 0, 1, ONE), 3)

    def test_withdrawals_refused(self):
        keeper = paid_keeper()
        keeper.withdraw(1)
        for thing in odd_things() + [-1, -3, 1, 3, 4, FAR, "0", ONE]:
            if type(thing) is int and thing in (0, 2):
                continue
            self.assertTrue(refused(self, NoNumber, keeper.withdraw, thing).number is thing)
        self.assertEqual((keeper.withdraw(0), keeper.withdraw(2)), (4, 5))
        for number in range(-1, 7):
            refused(self, NoNumber, keeper.withdraw, number)
        keeper.back()
        self.assertEqual(keeper.withdraw(2), 5)
        refused(self, NoNumber, PayKeeper().withdraw, 0)

    def test_no_share(self):
        for share in odd_things() + [NOUGHT, (-1, 2), (3, 2), 1, (2, 2), [1, 2]]:
            refused(self, NoAmount, PayKeeper, share=share)
            refused(self, NoAmount, PayKeeper, share=share, begin=5)
        for share in (ONE, HALF, (1, 1000)):
            PayKeeper(share=share)


class PaydayTest(unittest.TestCase):
    def test_by_hand(self):
        keeper = paid_keeper()
        self.assertEqual(keeper.payday(0), numbers(("bob", 0, 0, 0)))
        self.assertEqual(keeper.payday(10), numbers(("bob", 10, 10, 0)))
        keeper.set_hours("bob", 4, 6, NOUGHT)
        self.assertEqual(keeper.payday(cut=10), numbers(("bob", 10, 0, 0)))
        keeper.withdraw(2)
        self.assertEqual(keeper.payday(10), numbers(("bob", 2, 0, 8)))
        self.assertEqual(keeper.payday(20), numbers(("bob", 2, 0, 8)))
        keeper.set_hours("bob", 0, None, ONE)
        self.assertEqual(keeper.payday(25), numbers(("bob", 25, 15, 0)))
        self.assertEqual(keeper.account("bob"), (part(25), NOUGHT))
        self.assertEqual(keeper.paydays(), ((0, 3), (10, 3), (10, 4), (10, 5), (20, 5), (25, 6)))

    def test_by_half(self):
        keeper = paid_keeper(share=HALF)
        keeper.payday(10)
        keeper.set_rank("bob", 0, 10, "none")
        self.assertEqual(keeper.payday(16), numbers(("bob", 6, 0, 4)))
        self.assertEqual(keeper.payday(20), numbers(("bob", 10, 2, 2)))
        self.assertEqual(keeper.account(name="bob"), (part(12), part(2)))
        self.assertEqual(keeper.payday(21), ((("bob", part(11), HALF, part(3, 2))),))

    def test_rows_of_names_and_who_came_later(self):
        keeper = paid_keeper(begin=5)
        keeper.set_hours("al", 0, None, ONE)
        self.assertEqual(keeper.payday(8), numbers(("al", 0, 0, 0), ("bob", 3, 3, 0)))
        keeper.set_rank("eve", 0, None, "cook")
        keeper.set_hours("eve", 0, None, ONE)
        keeper.set_rank("al", 7, None, "cook")
        self.assertEqual((keeper.account("eve"), keeper.explained("eve")), ((NOUGHT, NOUGHT), ()))
        self.assertEqual(keeper.payday(8), numbers(("al", 1, 1, 0), ("bob", 3, 0, 0), ("eve", 3, 3, 0)))
        self.assertEqual(keeper.explained("eve"), ((5, part(3)),))
        self.assertEqual(PayKeeper().payday(3), ())

    def test_the_begin_bears_on_paydays_alone(self):
        keeper = paid_keeper(begin=-7)
        keeper.set_hours("bob", -20, 0, ONE)
        self.assertEqual(keeper.due("bob", -30, 3), part(23))
        self.assertEqual(keeper.payday(3), numbers(("bob", 10, 10, 0)))
        far = paid_keeper(begin=FAR)
        self.assertEqual(far.payday(FAR + 3), numbers(("bob", 3, 3, 0)))

    def test_no_cut(self):
        keeper = paid_keeper(begin=5)
        for last in (5, 9):
            for thing in odd_things() + [last - 1, -FAR, "9", ONE, (9,)]:
                if type(thing) is not int or thing < last:
                    self.assertEqual(refused(self, NoCut, keeper.payday, thing).last, last)
            keeper.payday(9)
            keeper.payday(9)
        self.assertEqual(keeper.paydays(), ((9, 3),) * 4)
        keeper.back()
        keeper.payday(20)
        keeper.back()
        keeper.payday(9)

    def test_due_refused(self):
        keeper = paid_keeper()
        for thing in odd_things() + ["al", "cook", "bobb", ("bob",)]:
            for call, more in ((keeper.due, (5, 3)), (keeper.account, ()), (keeper.explained, ())):
                self.assertTrue(refused(self, NoName, call, thing, *more).name is thing)
            self.assertTrue(refused(self, NoName, keeper.due, thing, 0, 1, known=99).name is thing)
            if type(thing) is not int:
                refused(self, NoStretch, keeper.due, "bob", thing, 3)
                refused(self, NoStretch, keeper.due, "bob", 3, thing)
                refused(self, NoStretch, keeper.due, "bob", thing, thing, known=99)
            if thing is not None and not (type(thing) is int and 0 <= thing <= 3):
                self.assertTrue(refused(self, NoNumber, keeper.due, "bob", 0, 1, known=thing).number is thing)
        for known in (4, -1, FAR):
            self.assertEqual(refused(self, NoNumber, keeper.due, "bob", 0, 1, known=known).number, known)
        refused(self, NoStretch, keeper.due, "bob", 3, 2)
        refused(self, NoStretch, keeper.due, "bob", 3, 2, known=99)
        self.assertEqual(keeper.due("bob", 3, 3, known=3), NOUGHT)


class ExplainedTest(unittest.TestCase):
    def test_by_hand(self):
        keeper = paid_keeper()
        self.assertEqual(keeper.explained("bob"), ())
        keeper.payday(10)
        self.assertEqual(keeper.explained("bob"), ((2, part(10)),))
        keeper.payday(14)
        self.assertEqual(keeper.explained("bob"), ((None, part(4)),))
        keeper.set_hours("bob", 2, 4, ONE)
        keeper.set_rank("bob", 12, 16, "none")
        keeper.set_hours("bob", 0, 13, part(2))
        keeper.withdraw(4)
        keeper.set_hours("bob", 100, None, part(2))
        self.assertEqual(keeper.explained(name="bob"), ((None, part(4)),))
        self.assertEqual(keeper.payday(20), numbers(("bob", 20, 6, 0)))
        self.assertEqual(keeper.explained("bob"), ((None, part(6)), (4, part(-4)), (6, part(4))))
        keeper.payday(20)
        self.assertEqual(keeper.explained("bob"), ())
        keeper.back()
        self.assertEqual(keeper.explained("bob"), ((None, part(6)), (4, part(-4)), (6, part(4))))
        self.assertEqual(keeper.withdraw(2), 8)
        self.assertEqual(keeper.explained("bob"), ((None, part(6)), (4, part(-4)), (6, part(4))))

    def test_of_rules_told_late(self):
        keeper = PayKeeper()
        keeper.set_rank("bob", 0, None, "cook")
        keeper.set_hours("bob", 0, None, ONE)
        keeper.payday(10)
        self.assertEqual(keeper.explained("bob"), ())
        keeper.set_rule("cook", 0, None, PAID)
        keeper.set_rule("cook", 5, None, ("flat", part(3)))
        keeper.payday(20)
        self.assertEqual(keeper.explained("bob"), ((2, part(20)), (3, part(30))))
        keeper.withdraw(2)
        keeper.withdraw(3)
        keeper.payday(20)
        self.assertEqual(keeper.explained("bob"), ((4, part(-5)), (5, part(-45))))


class RowTest(unittest.TestCase):
    def test_all(self):
        keeper = PayKeeper()
        deeds = [("rule", "cook", 0, None, PAID), ("rank", "bob", 0, None, "cook"), ("hours", "bob", 0, 9, ONE),
                 ("payday", 5), ("withdraw", 2), ("payday", 5)]
        answers = keeper.all_of(deeds)
        self.assertEqual(answers, (0, 1, 2, numbers(("bob", 5, 5, 0)), 3, numbers(("bob", 0, 0, 5))))
        self.assertEqual((keeper.all_of(()), keeper.all_of(deeds=[])), ((), ()))
        self.assertEqual((keeper.events(), keeper.paydays()), (4, ((5, 3), (5, 4))))
        self.assertEqual(deeds[1], ("rank", "bob", 0, None, "cook"))

    def test_or_none(self):
        keeper = paid_keeper()
        keeper.payday(3)
        before = all_told(keeper)
        fit = [("hours", "bob", 0, 9, HALF), ("payday", 7), ("withdraw", 1), ("rank", "al", 0, 1, "x")]
        for deed, kind in (
            (("withdraw", 1), NoNumber), (("withdraw", 9), NoNumber), (("payday", 6), NoCut), (("payday", None), NoCut),
            (("rule", "A", 0, None, PAID), NoName), (("rank", "a", 0, None, ""), NoName),
            (("rank", "a", 1, 1, "b"), NoTelling),
            (("rule", "a", 0, None, ()), NoRule), (("rule", "a", 0, None, LONG_RULE), TooLong),
            (("hours", "bob", 0, None, (-1, 1)), NoAmount), (None, NoDeed), ((), NoDeed), (["payday", 9], NoDeed),
            (("payday",), NoDeed), (("payday", 9, 9), NoDeed), (("back",), NoDeed), (("all", ()), NoDeed),
            (("rule", "a", 0, None), NoDeed), (("rank", "a", 0, None, "b", 1), NoDeed), (("hours", "a"), NoDeed),
            (("withdraw",), NoDeed), (("pay", 9), NoDeed), ((None, 9), NoDeed), ((Contrary(), 9), NoDeed),
            (Contrary(), NoDeed), ("payday", NoDeed), (("due", "bob", 0, 9), NoDeed),
        ):
            refused(self, kind, keeper.all_of, fit + [deed])
            refused(self, kind, keeper.all_of, tuple(fit + [deed] + fit))
            self.assertEqual(all_told(keeper), before)
        for thing in odd_things() + ["payday", {("payday", 9): 1}, ("payday", 9)]:
            if type(thing) not in (tuple, list) or len(thing) > 0:
                refused(self, NoDeed, keeper.all_of, thing)
            if repr(thing) != "('payday', 9)":
                refused(self, NoDeed, keeper.all_of, [thing])
        self.assertEqual(all_told(keeper), before)
        self.assertEqual(keeper.set_hours("al", 0, 1, ONE), 3)


class BackTest(unittest.TestCase):
    def test_each_deed(self):
        keeper = PayKeeper()
        refused(self, NoDeed, keeper.back)
        told = [all_told(keeper)]
        for deed in (("rule", "cook", 0, None, PAID), ("rank", "bob", 0, None, "cook"), ("hours", "bob", 0, 9, ONE),
                     ("payday", 5), ("withdraw", 2), ("payday", 5), ("hours", "al", 3, 4, ONE), ("payday", 9)):
            do(keeper, deed)
            told.append(all_told(keeper))
        for before in told[:-1][::-1]:
            self.assertIsNone(keeper.back())
            self.assertEqual(all_told(keeper), before)
        refused(self, NoDeed, keeper.back)
        self.assertEqual(keeper.set_rule("cook", 0, None, PAID), 0)

    def test_rows(self):
        keeper = paid_keeper()
        before = all_told(keeper)
        keeper.all_of([("payday", 5), ("hours", "al", 0, 1, ONE), ("payday", 7), ("withdraw", 0)])
        keeper.all_of(())
        after = all_told(keeper)
        keeper.all_of([])
        refused(self, NoNumber, keeper.all_of, [("payday", 9), ("withdraw", 99)])
        keeper.back()
        keeper.back()
        self.assertEqual(all_told(keeper), after)
        keeper.back()
        self.assertEqual(all_told(keeper), before)
        keeper.back()
        self.assertEqual(keeper.events(), 2)
        # What is told anew is numbered anew.
        self.assertEqual(keeper.set_rank("eve", 0, 1, "cook"), 2)


class LogTest(unittest.TestCase):
    def test_by_hand(self):
        keeper = PayKeeper()
        self.assertEqual(keeper.log(), ())
        wanted = []

        def step(words, kind, call, *args):
            if kind is None:
                call(*args)
            else:
                refused(self, kind, call, *args)
            wanted.extend([tuple(word.split(":")) for word in words.split()])
            self.assertEqual(keeper.log(), tuple(wanted))

        step("rule:in rule:out", None, keeper.set_rule, "cook", 0, None, PAID)
        step("rule:in rule:out", NoName, keeper.set_rule, None, 0, None, PAID)
        step("rank:in rank:out", None, keeper.set_rank, "bob", 0, None, "cook")
        step("rank:in rank:out", NoTelling, keeper.set_rank, "bob", 0, 0, "cook")
        step("hours:in hours:out", None, keeper.set_hours, "bob", 0, None, ONE)
        step("hours:in hours:out", NoAmount, keeper.set_hours, "bob", 0, None, None)
        step("withdraw:in withdraw:out", NoNumber, keeper.withdraw, None)
        step("withdraw:in withdraw:out", None, keeper.withdraw, 0)
        step("payday:in payday:out", None, keeper.payday, 9)
        step("payday:in payday:out", NoCut, keeper.payday, 8)
        step("back:in back:out", None, keeper.back)
        step("all:in all:out", None, keeper.all_of, ())
        step("all:in all:out", NoDeed, keeper.all_of, None)
        step("all:in all:out", NoDeed, keeper.all_of, [None])
        step("all:in payday:in payday:out hours:in hours:out all:out", None, keeper.all_of,
             [("payday", 9), ("hours", "al", 0, 1, ONE)])
        step("all:in payday:in payday:out hours:in hours:out all:out", NoAmount, keeper.all_of,
             [("payday", 9), ("hours", "al", 0, 1, 1), ("payday", 10)])
        step("all:in payday:in payday:out all:out", NoDeed, keeper.all_of, [("payday", 9), ("hours",), ("payday", 10)])
        for _ in range(6):
            step("back:in back:out", None, keeper.back)
        step("back:in back:out", NoDeed, keeper.back)
        keeper.people()
        keeper.paydays()
        self.assertEqual(keeper.log(), tuple(wanted))

    def test_what_is_told_is_no_list(self):
        keeper = paid_keeper()
        keeper.payday(5)
        self.assertEqual([type(told) for told in (keeper.log(), keeper.paydays(), keeper.people(),
                                                  keeper.account("bob"),
                                                  keeper.explained("bob"), keeper.payday(5))], [tuple] * 6)


class SlowTest(unittest.TestCase):
    def compare(self, rng, keeper, slow):
        self.assertEqual((keeper.events(), keeper.paydays(), keeper.people()),
                         (len(slow.told), slow.paydays(), slow.people()))
        for name in NAMES:
            self.assertEqual(told_or_refused(keeper.account, name), told_or_refused(slow.account, name))
            self.assertEqual(told_or_refused(keeper.explained, name), told_or_refused(slow.explained, name))
            one, known = rng.randint(-9, 30), rng.choice((None, rng.randint(0, keeper.events())))
            for other in (one, one + 1, one + 17):
                self.assertEqual(told_or_refused(keeper.due, name, one, other, known=known),
                                 told_or_refused(slow.due, name, one, other, known=known))

    def test_day_by_day_and_event_by_event(self):
        rng = random.Random(501)
        met = []
        for _ in range(150):
            share = rng.choice((Fraction(1), Fraction(1), Fraction(1, 2), Fraction(2, 3)))
            begin = rng.choice((0, 0, -4, 6))
            keeper, slow = PayKeeper(share=as_part(share), begin=begin), SlowKeeper(share, begin)
            for deed in base_deeds(rng)[:rng.choice((0, 6, 6))]:
                self.assertEqual(do(keeper, deed), slow.one(deed))
            for _ in range(18):
                kind = rng.randint(0, 9)
                if kind == 0:
                    self.assertEqual(told_or_refused(keeper.back), told_or_refused(slow.back))
                elif kind == 1:
                    deeds = [random_deed(rng, keeper) for _ in range(rng.randint(0, 4))]
                    if rng.randint(0, 5) == 0:
                        deeds.append(rng.choice((None, ("payday",), ("back",), ())))
                    self.assertEqual(told_or_refused(keeper.all_of, deeds), told_or_refused(slow.row, deeds))
                else:
                    deed = random_deed(rng, keeper)
                    self.assertEqual(told_or_refused(do, keeper, deed), told_or_refused(slow.one, deed))
                self.assertEqual(keeper.log(), tuple(slow.calls))
                if rng.randint(0, 2) == 0:
                    self.compare(rng, keeper, slow)
            self.compare(rng, keeper, slow)
            met.extend([len(keeper.explained(name)) for name in keeper.people()])
        self.assertGreater(max(met), 2)
        self.assertGreater(len([many for many in met if many > 0]), 30)

    def test_the_promise(self):
        rng = random.Random(502)
        for _ in range(40):
            share = rng.choice((ONE, ONE, HALF))
            keeper = PayKeeper(share=share)
            tops, ahead = {}, {}
            for deed in base_deeds(rng):
                do(keeper, deed)
            for _ in range(30):
                deed = random_deed(rng, keeper, wrong=False)
                answer = told_or_refused(do, keeper, deed)
                if deed[0] != "payday":
                    continue
                cut = deed[1]
                for name, total, now, debt in answer[1]:
                    in_all = keeper.account(name)[0]
                    # What was paid in all, less the debt, is what is due as known.
                    self.assertEqual(keeper.due(name, 0, cut), total)
                    self.assertEqual(worth(in_all) - worth(debt), worth(total))
                    self.assertEqual(keeper.account(name), (in_all, debt))
                    tops[name] = max(tops.get(name, Fraction(0)), worth(total))
                    paid, total_ahead = ahead.get(name, (NOUGHT, NOUGHT))
                    # Each difference is paid once.
                    self.assertEqual(plus(paid, now), in_all)
                    self.assertGreaterEqual(worth(now), 0)
                    if share == ONE:
                        self.assertEqual(worth(in_all), tops[name])
                    # And parted among the tellings that made it.
                    new = sum([worth(one) for _, one in keeper.explained(name)], Fraction(0))
                    self.assertEqual(new, worth(total) - worth(total_ahead))
                    self.assertTrue(all([is_part(one) and one != NOUGHT for _, one in keeper.explained(name)]))
                    ahead[name] = (in_all, total)

    def test_in_whatever_order_told_and_paid(self):
        # Stretches apart: told in any order, with paydays anywhere, all comes to the same.
        rng = random.Random(503)
        facts = [("rule", "cook", 0, None, ("flat", part(2))), ("rank", "bob", 0, 30, "cook"),
                 ("rank", "bob", 40, None, "cook"), ("hours", "bob", 5, 35, ONE), ("hours", "bob", 35, None, HALF)]
        for _ in range(30):
            keeper = PayKeeper()
            cut = 0
            for fact in rng.sample(facts, len(facts)):
                do(keeper, fact)
                cut += rng.choice((0, 0, 10))
                keeper.payday(cut)
            keeper.payday(60)
            self.assertEqual(keeper.account("bob"), (part(2 * (25 + 20)), NOUGHT))

    def test_a_full_keeper(self):
        start = time.perf_counter()
        keeper = PayKeeper(share=HALF)
        rng = random.Random(504)
        names = ["a" * few for few in range(1, 9)]
        week = Days(7, (0, 1, 2), turned=(9,))
        year = Days(5040, tuple(range(0, 5040, 3)))
        for at in range(60):
            begin = rng.randint(-10 ** 6, 10 ** 6)
            rule = ("on", week, ("on", year, ("flat", part(at)), PAID), ("flat", part(-at, 7)))
            do(keeper, (("rule", "cook", begin, None, rule), ("rank", names[at % 8], begin, None, "cook"),
                        ("hours", names[at // 3 % 8], begin, None, part(at)))[at % 3])
        for at in range(40):
            keeper.payday(10 ** 6 * at)
        keeper.back()
        self.assertEqual(len(keeper.people()), 8)
        for name in names:
            keeper.explained(name)
            self.assertEqual(keeper.due(name, -10 ** 17, 10 ** 17), plus(keeper.due(name, -10 ** 17, 77),
                                                                        keeper.due(name, 77, 10 ** 17)))
        self.assertLess(time.perf_counter() - start, 30)


class InterfaceTest(unittest.TestCase):
    def test_names_of_arguments(self):
        for name, told in (
            ("__init__", ["*share=(1, 1)", "*begin=0"]), ("set_rule", ["rank", "begin", "end", "rule"]),
            ("set_rank", ["name", "begin", "end", "rank"]), ("set_hours", ["name", "begin", "end", "hours"]),
            ("withdraw", ["number"]), ("payday", ["cut"]), ("back", []), ("all_of", ["deeds"]),
            ("due", ["name", "one", "other", "*known=None"]), ("account", ["name"]), ("explained", ["name"]),
            ("events", []), ("paydays", []), ("people", []), ("log", []),
        ):
            self.assertEqual(parameters(vars(PayKeeper)[name]), told)
        self.assertEqual(PayKeeper.__module__, "paymill.keeper")


if __name__ == "__main__":
    unittest.main()
