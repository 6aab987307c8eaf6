import random
import time
import unittest
from itertools import combinations, product

from common import Contrary, Sly, nested, odd_things, parameters, refused
from paymill import leave
from paymill.errors import NoLeave, NoNumber
from paymill.leave import (
    COMMON, LeaveBook, are_asks, are_lots, bar_count, best_leave, first_day, papers_of, papers_right,
    plan_worth, spare_of,
)

FAR = 10 ** 18
LOTS = ((0, 10, 1), (5, 20, 2), (20, 30, 1))
ASKS = ((7, 1), (7, 5), (3, 2), (12, 1), (25, 3), (25, 9), (99, 4))


def is_alive(lot, day):
    return lot[0] <= day < lot[1]


def all_plans(lots, asks):
    """All plans of few asks, by the words of 12.2."""
    choices = [[None, *[at for at, lot in enumerate(lots) if is_alive(lot, day)]] for day, _ in asks]
    return [plan for plan in product(*choices)
            if all([plan.count(at) <= lot[2] for at, lot in enumerate(lots)])]


def slow_worth(asks, plan):
    return sum([worth for (_, worth), lot in zip(asks, plan) if lot is not None])


def slow_count(lots, asks, worth, bar):
    """The count of a bar, by the words of 12.3."""
    many = len([ask for ask in asks if ask[1] >= worth and ask[0] not in bar])
    return many + sum([lot[2] for lot in lots if [day for day in bar if is_alive(lot, day)]])


def slow_fits(lots, asks):
    """Whether all asks can have lots: by sets of days, each lot cut at its many."""
    days = sorted({day for day, _ in asks})
    for few in range(1, len(days) + 1):
        for some in combinations(days, few):
            many = sum([lot[2] for lot in lots if [day for day in some if is_alive(lot, day)]])
            if len([ask for ask in asks if ask[0] in some]) > many:
                return False
    return True


def slow_spare(lots, asks, day, most=60):
    """How many asks more on a day could have lots, added one by one."""
    spare = 0
    while spare < most and slow_fits(lots, asks + ((day, 1),) * (spare + 1)):
        spare += 1
    return spare


def random_lots(rng, most=4, many=3):
    made = []
    for _ in range(rng.randint(0, most)):
        begin = rng.randint(-6, 8)
        made.append((begin, begin + rng.randint(1, 8), rng.randint(1, many)))
    return tuple(made)


def random_asks(rng, most=6, worths=4):
    return tuple([(rng.randint(-7, 12), rng.randint(1, worths)) for _ in range(rng.randint(0, most))])


def full_asks(rng, lots, most=8):
    """Asks that all can have lots."""
    room = [many for _, _, many in lots]
    asks = []
    for _ in range(rng.randint(0, most)):
        free = [at for at, many in enumerate(room) if many > 0]
        if free:
            at = rng.choice(free)
            room[at] -= 1
            asks.append((rng.randrange(lots[at][0], lots[at][1]), rng.randint(1, 4)))
    rng.shuffle(asks)
    return tuple(asks)


class JudgesTest(unittest.TestCase):
    def test_lots(self):
        for thing in ((), LOTS, ((0, 1, 1),) * 20, ((-FAR, FAR, 10 ** 6),), ((0, 10 ** 30, 1),)):
            self.assertIs(are_lots(thing), True)
        self.assertIs(are_lots(thing=LOTS), True)
        for thing in odd_things() + [
            ((0, 1, 1),) * 21, list(LOTS), ([0, 1, 1],), (0, 1, 1), ((0, 0, 1),), ((1, 0, 1),), ((0, 1, 0),),
            ((0, 1, -1),), ((0, 1, 10 ** 6 + 1),), ((0, 1),), ((0, 1, 1, 1),), ((False, 1, 1),), ((0, True, 1),),
            ((0, 1, True),), ((None, 1, 1),), ((0, None, 1),), ((0, 1, None),), (("0", 1, 1),), LOTS + (None,),
            (*LOTS, Contrary()), ((Contrary(), 1, 1),), ((0, 1, Contrary()),), nested(LOTS, 15, tuple), {LOTS: 1},
        ]:
            self.assertIs(are_lots(thing), repr(thing) == "()", repr(thing))

    def test_asks(self):
        for thing in ((), ASKS, ((0, 1),) * 40, ((-FAR, 10 ** 6),), ((10 ** 30, 1),)):
            self.assertIs(are_asks(thing), True)
        self.assertIs(are_asks(thing=ASKS), True)
        for thing in odd_things() + [
            ((0, 1),) * 41, list(ASKS), ([0, 1],), (0, 1), ((0, 0),), ((0, -1),), ((0, 10 ** 6 + 1),), ((0,),),
            ((0, 1, 1),), ((False, 1),), ((0, True),), ((None, 1),), ((0, None),), ((0, "1"),), ASKS + (None,),
            (*ASKS, Contrary()), ((Contrary(), 1),), ((0, Contrary()),), nested(ASKS, 15, tuple),
        ]:
            self.assertIs(are_asks(thing), repr(thing) in ("()", "((0, 1),)"), repr(thing))

    def test_no_leave_ahead_of_all(self):
        calls = (
            (best_leave, ()), (papers_of, ()), (plan_worth, (Contrary(),)), (bar_count, (3, Contrary())),
            (papers_right, (Contrary(), Contrary())), (spare_of, (3,)), (first_day, (3,)),
        )
        for thing in odd_things() + [((0, 1, 1),) * 21, list(LOTS), ((0, 0, 1),), ((0, 1),) * 41, ((0, 0),)]:
            for call, more in calls:
                if not are_lots(thing):
                    refused(self, NoLeave, call, thing, (), *more)
                    refused(self, NoLeave, call, thing, thing, *more)
                if not are_asks(thing):
                    refused(self, NoLeave, call, LOTS, thing, *more)
            if not are_lots(thing):
                refused(self, NoLeave, LeaveBook, thing)
                refused(self, NoLeave, LeaveBook, thing, asks=ASKS)
            if not are_asks(thing):
                refused(self, NoLeave, LeaveBook, LOTS, asks=thing)


class PlanTest(unittest.TestCase):
    def test_by_hand(self):
        worth, plan = best_leave(LOTS, ASKS)
        self.assertEqual((worth, plan_worth(LOTS, ASKS, plan)), (17, 17))
        self.assertEqual((plan[4], plan[5], plan[6]), (None, 2, None))
        self.assertEqual(best_leave(asks=ASKS, lots=LOTS), (worth, plan))
        self.assertEqual(best_leave((), ()), (0, ()))
        self.assertEqual(best_leave((), ((3, 5),)), (0, (None,)))
        self.assertEqual(best_leave(LOTS, ()), (0, ()))
        # The lesser ask goes to the lot that lapses, so that both have one.
        self.assertEqual(best_leave(((0, 5, 1), (0, 9, 1)), ((3, 1), (7, 1))), (2, (0, 1)))
        self.assertEqual(best_leave(((0, 9, 1), (0, 5, 1)), ((3, 9), (7, 1))), (10, (1, 0)))
        # One lot ends just as the other begins.
        self.assertEqual(best_leave(((0, 5, 1), (5, 9, 1)), ((4, 1), (5, 1))), (2, (0, 1)))
        self.assertEqual(best_leave(((0, 5, 1), (5, 9, 1)), ((4, 3), (4, 2)))[0], 3)

    def test_all_plans_of_few(self):
        rng = random.Random(401)
        for _ in range(250):
            lots, asks = random_lots(rng), random_asks(rng)
            plans = all_plans(lots, asks)
            worth, plan = best_leave(lots, asks)
            self.assertIn(plan, plans)
            self.assertEqual(worth, slow_worth(asks, plan))
            self.assertEqual(worth, max([slow_worth(asks, each) for each in plans]))
            for each in rng.sample(plans, min(5, len(plans))):
                self.assertEqual(plan_worth(lots, asks, each), slow_worth(asks, each))

    def test_no_plans(self):
        rng = random.Random(402)
        none = 0
        for _ in range(300):
            lots, asks = random_lots(rng), random_asks(rng, 3)
            thing = tuple([rng.choice((None, *range(-1, len(lots) + 1))) for _ in asks])
            right = thing in all_plans(lots, asks)
            none += not right
            self.assertEqual(plan_worth(lots, asks, thing), slow_worth(asks, thing) if right else None)
        self.assertGreater(none, 100)
        asks = ((7, 1), (25, 5))
        self.assertEqual(plan_worth(LOTS, asks, (1, 2)), 6)
        for thing in odd_things() + [[1, 2], (1,), (1, 2, None), (2, 2), (True, 2), (1, 3), (-2, -1), (1, "2"),
                                     (1, Contrary()), (Contrary(), None), ((1,), 2), (10 ** 30, 2), (1, False),
                                     {0: 1, 1: 2}]:
            worth = {"(None, None)": 0, "(0, None)": 1, "(0, 2)": 6}.get(repr(thing))
            self.assertEqual(plan_worth(LOTS, asks, thing), worth, repr(thing))
        self.assertEqual(plan_worth(thing=(), lots=LOTS, asks=()), 0)
        # No lot has more than its many.
        self.assertEqual(plan_worth(LOTS, ((7, 1),) * 3, (1, 1, 0)), 3)
        self.assertIsNone(plan_worth(LOTS, ((7, 1),) * 3, (1, 1, 1)))
        self.assertIsNone(plan_worth(LOTS, ((7, 1),) * 3, (0, 0, None)))

    def test_most(self):
        lots = tuple([(at, at + 30, 1 + at % 3) for at in range(20)])
        asks = tuple([(17 * at % 47, at % 7 + 1) for at in range(40)])
        start = time.perf_counter()
        worth, plan = best_leave(lots, asks)
        self.assertEqual(plan_worth(lots, asks, plan), worth)
        self.assertIs(papers_right(lots, asks, plan, papers_of(lots, asks)), True)
        self.assertLess(time.perf_counter() - start, 10)


class PapersTest(unittest.TestCase):
    def test_bars_by_hand(self):
        for worth, bar, count in ((1, (), 7), (5, (), 2), (3, (25,), 3), (1, (7, 25), 3 + 4), (10 ** 9, (), 0),
                                  (-10 ** 9, (99,), 6), (10 ** 9, (19,), 2), (1, (-FAR, FAR), 7)):
            self.assertEqual(bar_count(LOTS, ASKS, worth, bar), count)
        self.assertEqual(bar_count(thing=(5,), worth=1, asks=ASKS, lots=LOTS), 7 + 3)
        self.assertEqual(bar_count((), (), 1, ()), 0)
        for thing in odd_things() + [[7], (7, 7), (8, 7), (True,), (None,), ("7",), (7, Contrary()), (Contrary(),),
                                     ((7,),), {7: 1}, (0, True)]:
            right = type(thing) is tuple and all([type(day) is int for day in thing]) and (
                list(thing) == sorted(set(thing)))
            told = bar_count(LOTS, ASKS, 1, thing)
            self.assertEqual(told, slow_count(LOTS, ASKS, 1, thing) if right else None, repr(thing))

    def test_by_hand(self):
        self.assertEqual(papers_of((), ()), {})
        self.assertEqual(list(papers_of(LOTS, ASKS)), [1, 2, 3, 4, 5, 9])
        self.assertEqual(papers_of(asks=((7, 3),), lots=LOTS), {3: ()})
        worths = (10 ** 6, 7, 40000, 123456, 33, 9999)
        asks = tuple([(7, worth) for worth in worths])
        self.assertEqual(list(papers_of(LOTS, asks)), sorted(worths))
        self.assertIs(papers_right(LOTS, asks, best_leave(LOTS, asks)[1], papers_of(LOTS, asks)), True)
        self.assertEqual(papers_of((), ((7, 3),)), {3: (7,)})

    def test_told_ones_fit_all_best_plans(self):
        rng = random.Random(403)
        for _ in range(200):
            lots, asks = random_lots(rng), random_asks(rng, 5)
            papers = papers_of(lots, asks)
            self.assertEqual(list(papers), sorted({worth for _, worth in asks}))
            best = best_leave(lots, asks)[0]
            for plan in all_plans(lots, asks):
                self.assertIs(papers_right(lots, asks, plan, papers), slow_worth(asks, plan) == best)
            for worth, bar in papers.items():
                most = max([len([1 for ask, lot in zip(asks, plan) if lot is not None and ask[1] >= worth])
                            for plan in all_plans(lots, asks)])
                self.assertEqual(slow_count(lots, asks, worth, bar), most)
                self.assertEqual(bar_count(lots, asks, worth, bar), most)

    def test_any_bars_that_fit(self):
        rng = random.Random(404)
        seen = {True: 0, False: 0}
        for _ in range(200):
            lots, asks = random_lots(rng), random_asks(rng, 5)
            plan, papers = best_leave(lots, asks)[1], papers_of(lots, asks)
            days = sorted({day for day, _ in asks} | {rng.randint(-8, 13)})
            for worth in papers:
                bar = tuple(sorted(rng.sample(days, rng.randint(0, len(days)))))
                with_lot = len([1 for ask, lot in zip(asks, plan) if lot is not None and ask[1] >= worth])
                count = slow_count(lots, asks, worth, bar)
                self.assertGreaterEqual(count, with_lot)
                seen[count == with_lot] += 1
                self.assertIs(papers_right(lots, asks, plan, {**papers, worth: bar}), count == with_lot)
        self.assertGreater(min(seen.values()), 50)

    def test_other_things(self):
        lots, asks = LOTS, ((7, 1), (7, 5), (25, 5))
        plan, papers = best_leave(lots, asks)[1], papers_of(lots, asks)
        self.assertIs(papers_right(thing=papers, plan=plan, asks=asks, lots=lots), True)
        self.assertIs(papers_right(lots, asks, plan, dict(reversed(list(papers.items())))), True)
        for thing in odd_things():
            self.assertIs(papers_right(lots, asks, plan, thing), False)
            self.assertIs(papers_right(lots, asks, thing, papers), repr(thing) == "(0, 1, 2)")
            self.assertIs(papers_right(lots, asks, thing, thing), False)
            self.assertIs(papers_right((), (), (), thing), type(thing) is dict and not thing)
            fit = repr(thing) == "()"
            self.assertIs(papers_right(lots, asks, plan, {**papers, 5: thing}), fit, repr(thing))
        for thing in ({5: ()}, {1: (), 5: (), 6: ()}, {1: (), 5: (), "x": ()}, {True: (), 5: ()}, {Sly(1): (), 5: ()},
                      {1: (), 5: [7]}, {1: (), 5: (7, 7)}, {1: (), 5: (7,)}, [(1, ()), (5, ())], {1: (), 4: ()},
                      {1: None, 5: ()}, {1: (), 5: (True,)}, {1: (), None: ()}, {(): 1, 5: ()}, {1: (), 5: Contrary()}):
            self.assertIs(papers_right(lots, asks, plan, thing), False, thing)
        for wrong in ((0, 0, 2), (None, 0, 2), (0, 1, None), [0, 1, 2], (0, 1, 1)):
            self.assertIs(papers_right(lots, asks, wrong, papers), False)
        for right in ((0, 1, 2), (1, 1, 2), (1, 0, 2)):
            self.assertIs(papers_right(lots, asks, right, papers), True)


class SpareTest(unittest.TestCase):
    def check(self, lots, asks, day, spare, bar):
        self.assertIs(type(bar), tuple)
        self.assertEqual(list(bar), sorted(set(bar)))
        self.assertIn(day, bar)
        many = sum([lot[2] for lot in lots if [each for each in bar if is_alive(lot, each)]])
        self.assertEqual(many - len([ask for ask in asks if ask[0] in bar]), spare)

    def test_by_hand(self):
        for day, spare in ((-1, 0), (0, 1), (5, 3), (9, 3), (10, 2), (19, 2), (20, 1), (29, 1), (30, 0), (FAR, 0)):
            self.assertEqual(spare_of(LOTS, (), day)[0], spare)
        asks = ((7, 1), (7, 1), (7, 1))
        self.assertEqual(spare_of(LOTS, asks, 7), (0, (7,)))
        self.assertEqual(spare_of(day=0, asks=asks, lots=LOTS)[0], 0)
        self.assertEqual(spare_of(LOTS, ((7, 1), (7, 9)), 3)[0], 1)
        self.assertEqual(spare_of(LOTS, ((3, 1),), 7)[0], 2)
        self.assertEqual(spare_of((), (), 7), (0, (7,)))
        self.assertEqual(spare_of(((0, 9, 10 ** 6),) * 20, ((3, 1),) * 40, 8)[0], 20 * 10 ** 6 - 40)

    def test_added_one_by_one(self):
        rng = random.Random(405)
        for _ in range(150):
            lots = random_lots(rng)
            asks = full_asks(rng, lots)
            for day in rng.sample(range(-8, 18), 4):
                spare, bar = spare_of(lots, asks, day)
                self.assertEqual(spare, slow_spare(lots, asks, day))
                self.check(lots, asks, day, spare, bar)

    def test_first_day(self):
        for day, many, first in ((-5, 1, 0), (-5, 2, 5), (0, 3, 5), (7, 3, 7), (9, 3, 9), (10, 3, None), (10, 2, 10),
                                 (19, 1, 19), (20, 1, 20), (29, 1, 29), (30, 1, None), (FAR, 1, None), (-FAR, 1, 0),
                                 (-5, 4, None), (-5, 10 ** 18, None)):
            self.assertEqual(first_day(LOTS, (), day, many=many), first)
        self.assertEqual(first_day(many=2, day=-5, asks=(), lots=LOTS), 5)
        self.assertEqual(first_day(LOTS, (), -5), 0)
        self.assertEqual(first_day(LOTS, ((3, 1),), -5), 5)
        self.assertEqual(first_day(((FAR, 2 * FAR, 5),), (), -FAR, many=5), FAR)
        self.assertIsNone(first_day((), (), 0))

    def test_first_day_by_days(self):
        rng = random.Random(406)
        for _ in range(150):
            lots = random_lots(rng)
            asks = full_asks(rng, lots)
            spares = {day: slow_spare(lots, asks, day) for day in range(-8, 18)}
            for many in (1, 2, 3):
                day = rng.randint(-8, 17)
                slow = [each for each in range(day, 18) if spares[each] >= many]
                self.assertEqual(first_day(lots, asks, day, many=many), slow[0] if slow else None)

    def test_not_all_can(self):
        rng = random.Random(407)
        seen = {True: 0, False: 0}
        for _ in range(200):
            lots, asks = random_lots(rng), random_asks(rng, 4)
            fits = slow_fits(lots, asks)
            seen[fits] += 1
            for call in (spare_of, first_day):
                if fits:
                    call(lots, asks, 3)
                else:
                    refused(self, NoLeave, call, lots, asks, 3)
        self.assertGreater(min(seen.values()), 30)
        refused(self, NoLeave, first_day, LOTS, ASKS, 3, many=10 ** 9)


class BookTest(unittest.TestCase):
    def test_by_hand(self):
        book = LeaveBook(LOTS, asks=((7, 1), (7, 5)))
        self.assertEqual((len(book), repr(book)), (2, "LeaveBook(3 lots, 2 asks)"))
        self.assertEqual((book.ask(3), book.ask(7, worth=4), book.ask(worth=2, day=99)), (2, 3, 4))
        self.assertEqual(book.asks_now(), {0: (7, 1), 1: (7, 5), 2: (3, 1), 3: (7, 4), 4: (99, 2)})
        self.assertEqual(book.worth_now(), 10)
        self.assertEqual(book.drop(1), (7, 5))
        self.assertEqual(book.drop(number=4), (99, 2))
        self.assertEqual(list(book.asks_now().items()), [(0, (7, 1)), (2, (3, 1)), (3, (7, 4))])
        self.assertEqual((book.worth_now(), list(book.papers_now())), (6, [1, 4]))
        self.assertEqual((len(book), repr(book)), (3, "LeaveBook(3 lots, 3 asks)"))
        # No number twice.
        self.assertEqual(book.ask(0), 5)
        book.drop(5)
        self.assertEqual(book.ask(0), 6)
        self.assertEqual(repr(LeaveBook(lots=((0, 1, 1),), asks=((0, 1),))), "LeaveBook(1 lots, 1 asks)")
        self.assertEqual(repr(LeaveBook(())), "LeaveBook(0 lots, 0 asks)")
        self.assertEqual(LeaveBook(LOTS).ask(5), 0)

    def test_as_all_at_once(self):
        rng = random.Random(408)
        for _ in range(60):
            lots = random_lots(rng)
            first = random_asks(rng, 3)
            book, standing, told = LeaveBook(lots, asks=first), dict(enumerate(first)), len(first)
            for _ in range(12):
                if standing and rng.randint(0, 2) == 0:
                    number = rng.choice(sorted(standing))
                    self.assertEqual(book.drop(number), standing.pop(number))
                    self.assertIs(refused(self, NoNumber, book.drop, number).number, number)
                else:
                    day, worth = rng.randint(-7, 12), rng.randint(1, 4)
                    self.assertEqual(book.ask(day, worth=worth), told)
                    standing[told] = (day, worth)
                    told += 1
                asks = tuple(standing.values())
                self.assertEqual(list(book.asks_now().items()), list(standing.items()))
                self.assertEqual(book.worth_now(), best_leave(lots, asks)[0])
                self.assertEqual(list(book.papers_now()), sorted({ask[1] for ask in asks}))
                plan = best_leave(lots, asks)[1]
                self.assertIs(papers_right(lots, asks, plan, book.papers_now()), True)
                other = LeaveBook(lots[::-1], asks=tuple(rng.sample(asks, len(asks))))
                self.assertTrue(book == other)
                self.assertEqual(other.worth_now(), book.worth_now())

    def test_alike(self):
        book = LeaveBook(LOTS, asks=((7, 1), (3, 2)))
        same = LeaveBook(LOTS[::-1])
        for at, (day, worth) in enumerate(((3, 2), (9, 9), (7, 1))):
            self.assertEqual(same.ask(day, worth=worth), at)
        self.assertFalse(book == same)
        same.drop(1)
        self.assertTrue(book == same)
        self.assertFalse(book != same)
        for other in (LeaveBook(LOTS), LeaveBook(LOTS[:2], asks=((7, 1), (3, 2))),
                      LeaveBook(LOTS, asks=((7, 1), (3, 1))),
                      LeaveBook(LOTS + LOTS[:1], asks=((7, 1), (3, 2))),
                      LeaveBook(LOTS, asks=((7, 1), (3, 2), (3, 2)))):
            self.assertFalse(book == other)
            self.assertFalse(other == book)
        for thing in odd_things():
            if not isinstance(thing, Contrary) and thing is not NotImplemented:
                self.assertFalse(book == thing)

    def test_refused(self):
        book = LeaveBook(LOTS, asks=ASKS)
        for thing in odd_things() + [0, -1, 10 ** 6 + 1, "1"]:
            if type(thing) is not int or not 1 <= thing <= 10 ** 6:
                refused(self, NoLeave, book.ask, 3, worth=thing)
            if type(thing) is not int:
                refused(self, NoLeave, book.ask, thing)
                refused(self, NoLeave, book.ask, thing, worth=5)
            if type(thing) is not int or not 0 <= thing < len(ASKS):
                self.assertTrue(refused(self, NoNumber, book.drop, thing).number is thing)
        self.assertEqual((len(book), book.asks_now(), book.ask(3)), (7, dict(enumerate(ASKS)), 7))

    def test_forty(self):
        book = LeaveBook(LOTS, asks=((3, 1),) * 39)
        self.assertEqual(book.ask(3), 39)
        refused(self, NoLeave, book.ask, 3)
        self.assertEqual(len(book), 40)
        book.drop(17)
        self.assertEqual(book.ask(4), 40)
        refused(self, NoLeave, book.ask, 3)
        LeaveBook(LOTS, asks=((3, 1),) * 40)

    def test_what_is_told_is_the_askers(self):
        book = LeaveBook(LOTS, asks=ASKS)
        book.asks_now().clear()
        book.papers_now().clear()
        self.assertEqual((len(book.asks_now()), len(book.papers_now())), (7, 6))
        told = book.asks_now()
        book.drop(0)
        self.assertEqual(len(told), 7)


class InterfaceTest(unittest.TestCase):
    def test_names_of_arguments(self):
        self.assertEqual(COMMON, 1)
        for name, told in (
            ("are_lots", ["thing"]), ("are_asks", ["thing"]), ("best_leave", ["lots", "asks"]),
            ("plan_worth", ["lots", "asks", "thing"]), ("bar_count", ["lots", "asks", "worth", "thing"]),
            ("papers_of", ["lots", "asks"]), ("papers_right", ["lots", "asks", "plan", "thing"]),
            ("spare_of", ["lots", "asks", "day"]), ("first_day", ["lots", "asks", "day", "*many=1"]),
        ):
            self.assertEqual(parameters(getattr(leave, name)), told)
            self.assertEqual(getattr(leave, name).__module__, "paymill.leave")
        for name, told in (
            ("__init__", ["lots", "*asks=()"]), ("ask", ["day", "*worth=1"]), ("drop", ["number"]),
            ("asks_now", []), ("worth_now", []), ("papers_now", []),
        ):
            self.assertEqual(parameters(vars(LeaveBook)[name]), told)
        self.assertTrue({"__eq__", "__len__", "__repr__"} <= set(vars(LeaveBook)))


if __name__ == "__main__":
    unittest.main()
