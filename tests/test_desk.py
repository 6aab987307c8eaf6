import random
import unittest

from common import Contrary, odd_things, parameters, random_part, random_rule, refused
from paymill.desk import Desk
from paymill.errors import (
    NoAmount, NoCut, NoDeed, NoName, NoNumber, NoStretch, NoTelling, NoText, TooLong,
)
from paymill.keeper import PayKeeper
from paymill.parts import ONE, part
from paymill.texts import part_text, rule_text

HALF = part(1, 2)
NAMES = ("al", "bob", "eve", "Bob", "x" * 9)
WEEK = "on 7:0,1,2 hours 0:0,8:96 18 flat 0"
START = ("rule cook 0 - " + WEEK, "rank bob 0 - cook", "hours bob 0 - 8")
LONG_TEXT = "on 5040:0 on 5039:0 flat 1 flat 2 flat 3"


def told_desk(*lines, **more):
    desk = Desk(**more)
    for line in START + lines:
        desk.say(line)
    return desk


def day_text(day):
    return "-" if day is None else str(day)


def line_of_deed(deed):
    """A deed as a line, by the words of 14.1."""
    word, *told = deed
    if word in ("withdraw", "payday"):
        return f"{word} {told[0]}"
    name, begin, end, value = told
    last = {"rule": rule_text, "rank": str, "hours": part_text}[word](value)
    return f"{word} {name} {begin} {day_text(end)} {last}"


def text_of_answer(answer):
    """A deed's answer as a text, by the words of 14.1."""
    if type(answer) is int:
        return str(answer)
    rows = [" ".join([name, *[part_text(one) for one in told]]) for name, *told in answer]
    return ", ".join(rows) if rows else "none"


def random_deed(rng, keeper):
    begin = rng.randint(-6, 20)
    end = rng.choice((None, None, begin + rng.randint(0, 15)))
    word = rng.choice(("rule", "rank", "rank", "hours", "hours", "withdraw", "payday", "payday"))
    if word == "rule":
        return ("rule", rng.choice(("cook", "clerk", "C")), begin, end,
                random_rule(rng, rng.randint(1, 4), periods=(1, 2, 7)))
    if word == "rank":
        return ("rank", rng.choice(NAMES), begin, end, rng.choice(("cook", "clerk")))
    if word == "hours":
        return ("hours", rng.choice(NAMES), begin, end, random_part(rng, -1, 12))
    if word == "withdraw":
        return ("withdraw", rng.randint(0, keeper.events()))
    last = keeper.paydays()[-1][0] if keeper.paydays() else 0
    return ("payday", last + rng.choice((-1, 0, 1, 3, 7)))


class LinesTest(unittest.TestCase):
    def say(self, desk, *pairs):
        for line, answer in pairs:
            self.assertEqual(desk.say(line), answer, line)

    def test_by_hand(self):
        desk = Desk()
        self.say(
            desk, ("people", "none"), ("log", "none"), ("payday 0", "none"), ("back", "ok"), (START[0], "0"),
            ("people", "none"), (START[1], "1"), (START[2], "2"), ("people", "bob"), ("account bob", "0 0"),
            ("explained bob", "none"), ("due bob 0 7", "288"), ("due bob -7 0", "0"), ("due bob 0 7 known 2", "0"),
            ("due bob 0 7 known 3", "288"), ("due bob 1 1", "0"), ("payday 7", "bob 288 288 0"),
            ("hours bob 1 2 17/2", "3"), ("due bob 0 7", "297"), ("rank al -5 - cook", "4"), ("hours al 0 1 1/7", "5"),
            ("payday 8", "al 12/7 12/7 0, bob 393 105 0"), ("explained bob", "-:96 3:9"), ("explained al", "5:12/7"),
            ("withdraw 3", "6"), ("payday 8", "al 12/7 0 0, bob 384 0 9"), ("account bob", "393 9"),
            ("explained bob", "6:-9"), ("explained al", "none"), ("people", "al bob"), ("back", "ok"),
            ("account bob", "393 0"), ("all withdraw 5", "7"),
        )
        self.assertEqual(desk.say("log").split(" ")[:6], ["payday:in", "payday:out", "back:in", "back:out",
                                                          "rule:in", "rule:out"])
        self.assertEqual(desk.say("log").split(" ")[-4:], ["all:in", "withdraw:in", "withdraw:out", "all:out"])
        self.assertEqual((desk.counts(), len(desk), repr(desk)), ((35, 0), 35, "Desk(35 told, 0 refused)"))

    def test_days(self):
        most = 10 ** 19 - 1
        desk = told_desk(f"rank bob {-most} {most} x", begin=-most)
        self.say(desk, (f"due bob {-most} {most}", "0"), (f"payday {-most}", "bob 0 0 0"), ("payday -1", "bob 0 0 0"),
                 ("payday 0", "bob 0 0 0"), (f"payday {most}", "bob 0 0 0"), ("due bob 0 0 known 0", "0"))
        refused(self, NoNumber, desk.say, f"withdraw {most}")
        refused(self, NoNumber, desk.say, f"due bob 0 0 known {most}")
        for day in (str(most + 1), str(-most - 1), "00", "-0", "01", "-01", "+1", "1.0", "1e3", "", "-", "--1", "1-",
                    "x",
                    "1_0", "\u0661", "\u00b2", " ", "1\n", "0x1", "1/1", "\u22121", "0" * 20):
            for line in (f"payday {day}", f"due bob {day} 5", f"due bob 5 {day}", f"rank bob {day} - x",
                         f"hours bob {day} - 1", f"rule cook {day} - flat 0", f"withdraw {day}",
                         f"due bob 0 5 known {day}", f"all payday {day}"):
                refused(self, NoDeed, desk.say, line)
            for line in (f"rank bob 0 {day} x", f"hours bob 0 {day} 1", f"rule cook 0 {day} flat 0"):
                if day != "-":
                    refused(self, NoDeed, desk.say, line)
        for line in ("withdraw -1", "withdraw -0", "due bob 0 5 known -1", "withdraw -"):
            refused(self, NoDeed, desk.say, line)

    def test_parts(self):
        desk = told_desk()
        for text in ("0", "1/2", "8", "1/" + "9" * 400, "9" * 400):
            desk.say("hours al 0 - " + text)
        for text in ("2/2", "4/2", "0/1", "1/0", "01", "1/02", "-0", "1/-2", "/2", "1/", "1//2", "1/2/3", "", "x", "+1",
                     "1.5", "9" * 401, "1/1" + "0" * 400, "\u0661", "\u00bd", "1:2"):
            refused(self, NoDeed, desk.say, "hours al 0 - " + text)
        # These are parts; the keeper refuses them.
        for text in ("-1", "-1/2"):
            refused(self, NoAmount, desk.say, "hours al 0 - " + text)

    def test_no_lines(self):
        desk = told_desk("payday 3")
        for line in (
            "", " ", "  ", "x", "rule", "rank", "hours", "withdraw", "payday", "due", "account", "explained", "known",
            "all",
            "all ", "all  ", "none", "ok", "Back", "back ", " back", "back back", "people ", " people", "people bob",
            "log ",
            "log 1", "account", "account ", "account  bob", "account bob ", "account bob bob", "explained bob ",
            "explained  ", "withdraw 0 ", "withdraw  0", "withdraw 0 0", "payday 5 ", "payday  5", " payday 5",
            "payday 5 5", "rank bob 0 -", "rank bob 0 - ", "rank bob 0 - cook ", "rank bob 0 - cook x",
            "rank  0 - cook",
            "rank bob  - cook", "rank bob 0  cook", "rank  bob 0 - cook", "hours bob 0 -", "hours bob 0 - 1 ",
            "hours bob 0 - 1 1", "hours  0 - 1", "rule cook 0 -", "rule cook 0", "rule  0 - flat 0",
            "rule cook  - flat 0",
            "rule cook 0  flat 0", "rule cook - - flat 0", "rank bob - - cook", "hours bob - 5 1", "due bob 0",
            "due bob 0 5 ", "due bob 0 5 known", "due bob 0 5 known ", "due bob 0 5 known 1 ", "due bob 0 5 known 1 2",
            "due bob 0 5 knows 1", "due bob 0 5 1", "due bob 0 - ", "due bob 0 -", "due  0 5", "due 0 5",
            "due bob 0  5",
            "all all payday 5", "all back", "all people", "all due bob 0 5", "all payday 5 ;", "all payday 5 ; ",
            "all ; payday 5", "all  ; payday 5", "all payday 5 ;  payday 6", "all payday 5  ; payday 6",
            "all payday 5;payday 6",
            "all  payday 5", "all payday 5 ", "payday 5 ; payday 6", "all payday 5 ; back", "all payday 5 ; x",
            "account bob 0 5 known 1", "explained bob 0 5 known 1", "people bob 0 5 known 1", "back bob 0 5 known 1",
            "payday known", "withdraw known", "due bob known 5", "due bob 0 5 7 1", "due bob 0 5 - 1",
            "rank bob known - x",
            "rank bob 0 known x", "payday\t5", "payday 5\n", "Payday 5", "pay 5", "rule\ncook 0 - flat 0",
            "alls payday 5",
        ):
            refused(self, NoDeed, desk.say, line)
        self.assertEqual((desk.say("people"), desk.say("due bob 0 7"), desk.say("payday 3")),
                         ("bob", "288", "bob 288 0 0"))
        for thing in odd_things():
            if type(thing) is not str:
                refused(self, NoDeed, desk.say, thing)
        for thing in (b"people", ["people"], ("people",), {"people": 1}, Contrary()):
            refused(self, NoDeed, desk.say, thing)

    def test_texts(self):
        desk = told_desk()
        for text, at in (
            ("", 0), (" ", 0), (" flat 0", 0), ("flat", 1), ("flat ", 1), ("flat 0 ", 2), ("flat  0", 1), ("x", 0),
            ("flat 00", 1),
            ("flat 0 0", 2), ("flat\t0", 0), ("flat 0\n", 1), ("flat \u0660", 1), ("\u00e9", 0), ("sum flat 0", 3),
            ("on 7:0,1 hours 0:0,8:96 12 flat 0", 4), ("flat -", 1), ("flat 0 ;", 2), ("flat " + chr(37), 1),
        ):
            self.assertEqual(refused(self, NoText, desk.say, "rule cook 0 - " + text).at, at, text)
            if ";" not in text:
                self.assertEqual(refused(self, NoText, desk.say, f"all payday 3 ; rule cook 0 5 {text}").at, at)
                self.assertEqual(refused(self, NoText, desk.say, f"all rule cook 0 5 {text} ; payday 3").at, at)
        self.say(desk, ("rule cook 0 - flat 1/2", "3"), ("rule cook -5 7 " + WEEK, "4"),
                 ("rule cook 5 - on 7:0;3,9 times -1/2 flat 2 most flat 0 least flat 1 flat 2", "5"))

    def test_order_of_refusals(self):
        desk = told_desk("payday 9")
        before = desk.say("log")
        # No line ahead of all, then a TEXT.
        for line in ("rule COOK x - x", "rule COOK 5 4x x", "all withdraw 99 ; rule cook 0 - x ; x",
                     "all payday 3 ; payday x",
                     "all rule cook 0 - x ; payday", "all rule cook 0 - ; rule cook 0 -"):
            refused(self, NoDeed, desk.say, line)
        for line in ("rule COOK 5 5 x", "all withdraw 99 ; rule cook 0 - x", "all payday 3 ; rule cook 5 5 flat",
                     "all rule A 0 - x ; withdraw 99", "all rule cook 0 -  ; withdraw 0"):
            refused(self, NoText, desk.say, line)
        self.assertEqual(refused(self, NoText, desk.say, "all rule cook 0 - flat ; rule cook 0 - x").at, 1)
        self.assertEqual(desk.say("log"), before)
        # Then as the keeper refuses.
        for line, kind in (
            ("rule COOK 5 5 flat 0", NoName), ("rule cook 5 5 flat 0", NoTelling),
            ("rule cook 5 - " + LONG_TEXT, TooLong),
            ("rank B 5 5 c", NoName), ("rank b 5 5 C", NoName), ("rank b 5 4 c", NoTelling), ("hours B 5 5 -1", NoName),
            ("hours b 5 5 -1", NoTelling), ("hours b 5 6 -1", NoAmount), ("withdraw 3", NoNumber), ("payday 8", NoCut),
            ("due al 5 4", NoName), ("due bob 5 4 known 99", NoStretch), ("due bob 5 5 known 99", NoNumber),
            ("account al", NoName), ("explained \u00e9", NoName), ("account known", NoName),
            ("all payday 9 ; withdraw 99 ; rule A 0 - flat 0", NoNumber), ("all payday 9 ; payday 8", NoCut),
        ):
            refused(self, kind, desk.say, line)
        self.assertEqual(desk.say("payday 9"), "bob 480 0 0")
        empty = Desk()
        refused(self, NoDeed, empty.say, "back")
        self.assertEqual(empty.say("log"), "back:in back:out")

    def test_all(self):
        desk = Desk()
        line = "all " + " ; ".join(START + ("payday 7", "withdraw 2", "payday 7"))
        self.say(desk, (line, "0 ; 1 ; 2 ; bob 288 288 0 ; 3 ; bob 0 0 288"), ("all payday 7", "bob 0 0 288"),
                 ("all rank al 0 - x ; payday 9", "4 ; al 0 0 0, bob 0 0 288"), ("back", "ok"), ("people", "bob"))
        refused(self, NoNumber, desk.say, "all rank al 0 - x ; withdraw 3")
        self.say(desk, ("people", "bob"), ("back", "ok"), ("back", "ok"), ("people", "none"),
                 ("all payday 0 ; payday 0", "none ; none"))

    def test_parted_from_the_left_on(self):
        desk = told_desk()
        # Between these is ` ; `, and `; withdraw 0` is no line.
        refused(self, NoDeed, desk.say, "all payday 3 ; ; withdraw 0")
        # The TEXT ahead is empty, as the blank behind END stands.
        self.assertEqual(refused(self, NoText, desk.say, "all rule cook 0 -  ; withdraw 0").at, 0)
        refused(self, NoDeed, desk.say, "all rule cook 0 - ; withdraw 0")
        self.assertEqual(refused(self, NoText, desk.say, "all rule cook 0 - flat 0;1 ; withdraw 0").at, 1)
        # In a NAME any sign may stand; alone between two blanks it parts.
        refused(self, NoName, desk.say, "rank ; 0 - x")
        refused(self, NoName, desk.say, "all rank ;x 0 - x")
        refused(self, NoDeed, desk.say, "all rank ; 0 - x")


class CountsTest(unittest.TestCase):
    def test_counts(self):
        desk = Desk()
        self.assertEqual((desk.counts(), len(desk), repr(desk), bool(len(desk))),
                         ((0, 0), 0, "Desk(0 told, 0 refused)", False))
        told = gone = 0
        for line, fits in (
            ("people", True), (None, False), ("x", False), (START[0], True), ("rule cook 0 - x", False),
            ("payday -1", False),
            (Contrary(), False), ("all payday 0 ; payday 0", True), ("all payday 0 ; x", False), ("account al", False),
            ("all payday 0 ; withdraw 9", False), ("back", True), (5, False), ([], False), ("", False), ("log", True),
        ):
            told += 1
            if fits:
                desk.say(line)
            else:
                gone += 1
                self.assertRaises(Exception, desk.say, line)
            self.assertEqual((desk.counts(), len(desk)), ((told, gone), told))
            self.assertEqual(repr(desk), f"Desk({told} told, {gone} refused)")
        self.assertIs(type(desk.counts()), tuple)

    def test_made(self):
        for share in odd_things() + [(0, 1), (3, 2), (-1, 2), (2, 4)]:
            refused(self, NoAmount, Desk, share=share)
        desk = told_desk("payday 10", "rank bob 0 10 x", share=HALF)
        self.assertEqual(desk.say("payday 17"), "bob 288 0 288")
        self.assertEqual(desk.say("payday 24"), "bob 576 144 144")
        self.assertEqual(refused(self, NoCut, Desk(begin=5, share=ONE).say, "payday 4").last, 5)


class BesideAKeeperTest(unittest.TestCase):
    def both(self, desk, line, call, *args, **more):
        """The desk answers, or refuses, as the keeper does."""
        try:
            told = call(*args, **more)
        except Exception as refusal:
            found = refused(self, type(refusal), desk.say, line)
            self.assertEqual(vars(found), vars(refusal))
            return None
        answer = desk.say(line)
        return told, answer

    def check_asked(self, rng, desk, keeper):
        self.assertEqual(desk.say("people"), " ".join(keeper.people()) or "none")
        self.assertEqual(desk.say("log"), " ".join([":".join(pair) for pair in keeper.log()]) or "none")
        for name in NAMES:
            one, other = rng.randint(-9, 20), rng.randint(5, 40)
            known = rng.randint(0, keeper.events() + 1)
            for line, call, args, more, text in (
                (f"due {name} {one} {other}", keeper.due, (name, one, other), {}, part_text),
                (f"due {name} {one} {other} known {known}", keeper.due, (name, one, other), {"known": known},
                 part_text),
                (f"account {name}", keeper.account, (name,), {}, lambda pair: " ".join(map(part_text, pair))),
                (f"explained {name}", keeper.explained, (name,), {}, lambda row: " ".join(
                    [f"{'-' if number is None else number}:{part_text(one)}" for number, one in row]) or "none"),
            ):
                pair = self.both(desk, line, call, *args, **more)
                if pair:
                    self.assertEqual(text(pair[0]), pair[1])

    def test_alike(self):
        rng = random.Random(601)
        for _ in range(40):
            share = rng.choice((ONE, HALF))
            desk, keeper = Desk(share=share, begin=-2), PayKeeper(share=share, begin=-2)
            calls = {"rule": keeper.set_rule, "rank": keeper.set_rank, "hours": keeper.set_hours,
                     "withdraw": keeper.withdraw, "payday": keeper.payday}
            for _ in range(25):
                kind = rng.randint(0, 7)
                if kind == 0:
                    pair = self.both(desk, "back", keeper.back)
                    self.assertIn(pair, (None, (None, "ok")))
                elif kind == 1:
                    deeds = [random_deed(rng, keeper) for _ in range(rng.randint(1, 4))]
                    line = "all " + " ; ".join([line_of_deed(deed) for deed in deeds])
                    pair = self.both(desk, line, keeper.all_of, deeds)
                    if pair:
                        self.assertEqual(" ; ".join([text_of_answer(answer) for answer in pair[0]]), pair[1])
                else:
                    deed = random_deed(rng, keeper)
                    pair = self.both(desk, line_of_deed(deed), calls[deed[0]], *deed[1:])
                    if pair:
                        self.assertEqual(text_of_answer(pair[0]), pair[1])
            self.check_asked(rng, desk, keeper)


class InterfaceTest(unittest.TestCase):
    def test_names_of_arguments(self):
        for name, told in (("__init__", ["*share=(1, 1)", "*begin=0"]), ("say", ["line"]), ("counts", []),
                           ("__len__", []), ("__repr__", [])):
            self.assertEqual(parameters(vars(Desk)[name]), told)
        self.assertEqual(Desk.__module__, "paymill.desk")
        self.assertEqual(Desk().say(line="people"), "none")


if __name__ == "__main__":
    unittest.main()
