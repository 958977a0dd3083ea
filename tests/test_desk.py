"""Promise 23: a desk; and promises 2 and 3 as far as they speak of it."""

import random
import unittest

import helper
from helper import LARGEST, MILLION, changed
from wishmart.clearing import worths
from wishmart.desk import Desk
from wishmart.errors import MartError, NoBuyer, NoGood, NoNumber, NoRow, Nothing, NoText, Unwished
from wishmart.fairs import Fair
from wishmart.stretches import stretch
from wishmart.texts import fraction_text, market_text

SMALL = ((10, 4, 1), ((5, 1), (7, 2)), ((3, 0, 0), (1, 2, 0)))
SMALL_TEXT = "amounts 10 4 1\nbuyer 5 3 0 0\nbuyer 7/2 1 2 0"
MARKETS = [SMALL, ((1,), ((1, 1),), ((1,),))] + helper.some_markets(141, 15) + helper.some_markets(142, 2, least=6)

ASKED = ["market", "prices", "worths", "rises"]
ROWS = ["purse 0 9/2", "purse 1 7", "amount 2 60", "wish 0 1 100", "wish 1 0 0", "back", "market", "prices", "worths",
        "rises", "stretch 0", "stretch 1"]
NO_TEXTS = [True, False, None, 0, 1, -1, LARGEST, (), [], ("back",), ["back"], ("purse", 0, (1, 1)), [["prices"]],
            (None,), helper.deep_nest()]


def row_of(change):
    """The row that says a change."""
    words = [fraction_text(word) if isinstance(word, tuple) else str(word) for word in change]
    return " ".join(words)


def answers_of(fair):
    """What a desk must answer to all that can be asked, by its fair."""
    market = fair.market()
    told = {"market": market_text(market), "prices": " ".join(map(fraction_text, fair.prices())),
            "worths": " ".join(map(fraction_text, worths(market))), "rises": str(len(fair.last_rises()))}
    for buyer in range(len(market[1])):
        word, goods, purse = stretch(market, buyer)
        end = "ever" if purse is None else fraction_text(purse)
        told[f"stretch {buyer}"] = ",".join(map(str, goods)) + " " + end
    return told


def answer_or_refusal(call, *handed_in):
    try:
        return call(*handed_in)
    except MartError as error:
        return type(error)


class DeskCase(unittest.TestCase):
    def asked(self, desk, rows):
        return {row: desk.say(row) for row in rows}

    def assert_as(self, desk, fair):
        told = answers_of(fair)
        self.assertEqual(self.asked(desk, told), told)
        self.assertTrue(all(type(answer) is str for answer in self.asked(desk, told).values()))

    def assert_refused(self, error, desk, row):
        before = self.asked(desk, ASKED)
        with self.assertRaises(MartError) as caught:
            desk.say(row)
        self.assertIs(type(caught.exception), error)
        self.assertEqual(self.asked(desk, ASKED), before)


class AnswersTest(DeskCase):
    def test_told_as_written_out(self):
        desk = Desk(SMALL_TEXT)
        for row, answer in [
            ("market", SMALL_TEXT), ("prices", "1/2 7/8 0"), ("worths", "30 8"), ("rises", "2"),
            ("stretch 0", "0 ever"), ("stretch 1", "1 4"),
            ("purse 1 9/2", "ok"), ("prices", "19/36 19/18 0"), ("rises", "2"), ("stretch 1", "0,1 ever"),
            ("worths", "540/19 162/19"), ("purse 1 9/2", "ok"), ("rises", "0"),
            ("amount 2 60", "ok"), ("market", "amounts 10 4 60\nbuyer 5 3 0 0\nbuyer 9/2 1 2 0"),
            ("wish 1 1 100", "ok"), ("market", "amounts 10 4 60\nbuyer 5 3 0 0\nbuyer 9/2 1 100 0"),
            ("prices", "1/2 9/8 0"), ("worths", "30 400"), ("stretch 1", "1 200"), ("stretch 0", "0 ever"),
            ("back", "ok"), ("back", "ok"), ("back", "ok"), ("rises", "2"), ("prices", "19/36 19/18 0"),
            ("back", "ok"), ("market", SMALL_TEXT), ("prices", "1/2 7/8 0"),
        ]:
            with self.subTest(row=row):
                self.assertEqual(desk.say(row), answer)
        self.assert_refused(Nothing, desk, "back")

    def test_beside_a_fair(self):
        chance = random.Random(143)
        for market in MARKETS:
            desk, fair = Desk(market_text(market)), Fair(market)
            self.assert_as(desk, fair)
            for many in range(25):
                if many and chance.random() < 0.3:
                    told = answer_or_refusal(desk.say, "back")
                    self.assertIn(told, ["ok", Nothing])
                    self.assertEqual(answer_or_refusal(fair.back), None if told == "ok" else Nothing)
                else:
                    change = helper.any_change(fair.market(), chance)
                    told = answer_or_refusal(desk.say, row_of(change))
                    self.assertIn(told, ["ok", Unwished])
                    done = answer_or_refusal(getattr(fair, change[0]), *change[1:])
                    self.assertEqual(done, None if told == "ok" else Unwished)
                self.assert_as(desk, fair)

    def test_numbers_that_are_there_and_beyond(self):
        chance = random.Random(144)
        numbers = [0, 1, 2, 5, 6, 7, 60, 61, 100, 101, MILLION, MILLION + 1, 10 ** 9 - 1]
        purses = [(0, 1), (1, 1), (1, 2), (MILLION, 1), (MILLION + 1, 1), (1, MILLION), (1, MILLION + 1),
                  (10 ** 9 - 1, 10 ** 9 - 2), (10 ** 9 - 1, 1), (1, 10 ** 9 - 1), (0, 1)]
        seen = {}
        for market in MARKETS[:8]:
            desk, fair = Desk(market_text(market)), Fair(market)
            for _ in range(120):
                one, two, three = (chance.choice(numbers[:chance.choice([2, 5, 13])]) for _ in range(3))
                change = chance.choice([("purse", one, chance.choice(purses)), ("amount", one, two),
                                        ("wish", one, two, three), ("wish", one, two, 0)])
                done = answer_or_refusal(getattr(fair, change[0]), *change[1:])
                told = answer_or_refusal(desk.say, row_of(change))
                self.assertEqual(told, "ok" if done is None else done, change)
                seen[told] = seen.get(told, 0) + 1
                told = answer_or_refusal(desk.say, f"stretch {one}")
                right = answer_or_refusal(stretch, fair.market(), one)
                self.assertEqual(told == NoBuyer, right == NoBuyer)
            self.assert_as(desk, fair)
        self.assertEqual(set(seen), {"ok", NoBuyer, NoGood, NoNumber, Unwished})

    def test_many_changes_and_all_the_way_back(self):
        chance = random.Random(145)
        desk, fair = Desk(SMALL_TEXT), Fair(SMALL)
        for _ in range(300):
            change = helper.some_change(fair.market(), chance)
            self.assertEqual(desk.say(row_of(change)), "ok")
            getattr(fair, change[0])(*change[1:])
        self.assert_as(desk, fair)
        for _ in range(300):
            self.assertEqual(desk.say("back"), "ok")
        self.assert_as(desk, Fair(SMALL))
        self.assert_refused(Nothing, desk, "back")

    def test_two_desks_beside_each_other(self):
        chance = random.Random(146)
        for market in MARKETS[:6]:
            text = market_text(market)
            both = [(Desk(text), Fair(market)) for _ in range(2)]
            for _ in range(12):
                desk, fair = chance.choice(both)
                change = helper.some_change(fair.market(), chance)
                desk.say(row_of(change))
                getattr(fair, change[0])(*change[1:])
                for one, other in both:
                    self.assert_as(one, other)

    def test_the_same_again(self):
        for market in MARKETS:
            desk, other = Desk(market_text(market)), Desk(SMALL_TEXT)
            rows = list(answers_of(Fair(market)))
            told = self.asked(desk, rows)
            self.asked(other, ASKED)
            self.assertEqual(self.asked(desk, rows[::-1]), told)


class RefusedTest(DeskCase):
    def test_as_the_fair_refuses(self):
        desk = Desk(SMALL_TEXT)
        for row, error in [
            ("purse 2 1", NoBuyer), ("purse 999999999 1", NoBuyer), ("purse 2 0", NoBuyer), ("purse 0 0", NoNumber),
            ("purse 0 1000001", NoNumber), ("purse 0 1/1000001", NoNumber), ("purse 0 999999999/999999998", NoNumber),
            ("amount 3 1", NoGood), ("amount 3 0", NoGood), ("amount 0 0", NoNumber), ("amount 0 61", NoNumber),
            ("amount 999999999 999999999", NoGood), ("wish 2 0 1", NoBuyer), ("wish 0 3 1", NoGood),
            ("wish 2 3 101", NoBuyer), ("wish 0 3 101", NoGood), ("wish 0 0 101", NoNumber), ("wish 0 0 0", Unwished),
            ("stretch 2", NoBuyer), ("stretch 999999999", NoBuyer), ("back", Nothing),
        ]:
            with self.subTest(row=row):
                self.assert_refused(error, desk, row)
        desk.say("wish 1 0 0")
        self.assert_refused(Unwished, desk, "wish 1 1 0")
        self.assertEqual(desk.say("back"), "ok")
        self.assertEqual(desk.say("market"), SMALL_TEXT)

    def test_no_texts(self):
        desk = Desk(SMALL_TEXT)
        for thing in NO_TEXTS:
            self.assert_refused(NoRow, desk, thing)

    def test_rows_that_are_none(self):
        desk = Desk(SMALL_TEXT)
        for row in ["", " ", "\n", "ok", "ever", "Back", "BACK", "back ", " back", "back\n", "\nback", "back back", "back 1",
                    "market ", "market 0", "markets", "prices 0", "price", "worths 0", "worth", "rises 0", "rise",
                    "last_rises", "stretch", "stretch ", "stretch 0 1", "stretch  0", "stretch 0 ", "stretch\n0",
                    "stretch a", "stretch -1", "stretch +0", "stretch 00", "stretch 01", "stretch 0/1", "stretch 1/2",
                    "stretch 0.0", "purse", "purse 0", "purse 0 ", "purse 0 1 ", " purse 0 1", "purse  0 1", "purse 0  1",
                    "purse 0 1 1", "purse 0 1/1", "purse 0 2/4", "purse 0 0/1", "purse 0 0/5", "purse 0 1/0",
                    "purse 0 -1", "purse 0 +1", "purse 0 01", "purse 0 1/02", "purse 0 1/2/3", "purse 0 /2", "purse 0 1/",
                    "purse 0 1//2", "purse 0 /", "purse 1/2 1", "purse 0/1 1", "purse -1 1", "purse 00 1", "purse a 1",
                    "purse 0 a", "purse 0 1.5", "purse 0,1", "purse,0,1", "purse\t0\t1", "Purse 0 1", "amount 0",
                    "amount 0 1 1", "amount 0 1/2", "amount 0 01", "amount 0 -1", "amount -1 1", "amount 0 a", "amount 0 ",
                    "amounts 10 4 1", "wish 0 0", "wish 0 0 0 0", "wish 0 0 1/2", "wish 0 0 -1", "wish 0 0 00",
                    "wish 0 -1 1", "wish -1 0 1", "wish 0 0 ", "wish 0  0", "buyer 5 3 0 0", SMALL_TEXT, "prices\nprices",
                    "market\n", "purse 0 1\n", "purse 0 1\nback", "purse 0 \u0661", "stretch \u00b2", "__init__", "say",
                    "purse 0 1_0", "amount 0 1e1", "amount 0 0x1"]:
            with self.subTest(row=row):
                self.assert_refused(NoRow, desk, row)

    def test_nine_figures_and_more(self):
        desk = Desk(SMALL_TEXT)
        for figures in [9, 10, 11, 60, 1900]:
            number = "9" * figures
            odd = "1" * figures
            for row, error in [
                (f"purse {number} 1", NoBuyer), (f"purse 0 {number}", NoNumber), (f"purse 0 {odd}/2", NoNumber),
                (f"purse 0 2/{odd}", NoNumber), (f"purse 0 {number}/2", NoNumber), (f"amount {number} 1", NoGood),
                (f"amount 0 {number}", NoNumber), (f"wish {number} 0 1", NoBuyer), (f"wish 0 {number} 1", NoGood),
                (f"wish 0 0 {number}", NoNumber), (f"stretch {number}", NoBuyer),
            ]:
                self.assert_refused(error if figures == 9 else NoRow, desk, row)
        # Top and bottom may have nine figures each.
        self.assert_refused(NoNumber, desk, "purse 0 999999999/999999998")
        self.assert_refused(NoRow, desk, "purse 0 1000000000/999999999")
        self.assert_refused(NoRow, desk, "purse 0 999999999/1000000000")

    def test_no_row_goes_ahead_of_all_else(self):
        desk = Desk(SMALL_TEXT)
        for row in ["purse 9 01", "purse 9 1/1", "purse 9 1 1", "purse 9 0/1", "amount 9 -1", "amount 9 00", "wish 9 9 a",
                    "wish 9 0 1000000000", "wish 0 0 0 0", "wish 0 0 00", "stretch 9 9", "stretch 0009", "back 1"]:
            self.assert_refused(NoRow, desk, row)

    def test_rows_spoilt_at_any_place(self):
        chance = random.Random(147)
        signs = [chr(code) for code in range(ord(" "), ord("~") + 1) if chr(code) != "%"] + ["\n"]
        for row in ROWS:
            for at in range(len(row) + 1):
                for sign in chance.sample(signs, 8) + [" ", "/", "-"]:
                    for spoilt in [row[:at] + sign + row[at:], row[:at] + sign + row[at + 1:]]:
                        # A figure more or less may be right in its place.
                        if not sign.isdigit() and spoilt != row:
                            self.assert_spoilt(row, spoilt)
                if not row[at:at + 1].isdigit() and at < len(row):
                    self.assert_spoilt(row, row[:at] + row[at + 1:])
                    self.assert_spoilt(row, row[:at] + row[at] + row[at:])

    def assert_spoilt(self, row, spoilt):
        # Only that a fraction of a purse comes to be another one, or to be one, leaves a row.
        desk = Desk(SMALL_TEXT)
        words = spoilt.split(" ")
        if row.startswith("purse") and len(words) == 3 and words[:2] == row.split(" ")[:2]:
            parts = words[2].split("/")
            if all(part.isdigit() and part[0] != "0" for part in parts):
                return
        with self.subTest(row=spoilt):
            self.assert_refused(NoRow, desk, spoilt)

    def test_behind_a_refusal_the_last_change_is_undone(self):
        desk = Desk(SMALL_TEXT)
        desk.say("purse 0 6")
        desk.say("amount 0 9")
        for row in ["purse 0 2/4", "purse 9 1", "wish 0 0 101", "wish 0 0 0", None, "backs"]:
            self.assertNotEqual(answer_or_refusal(desk.say, row), "ok")
        desk.say("back")
        self.assertEqual(desk.say("market"), market_text(changed(SMALL, ("purse", 0, (6, 1)))))
        desk.say("back")
        self.assertEqual(desk.say("market"), SMALL_TEXT)


class MadeTest(DeskCase):
    def assert_not_made(self, error, thing):
        with self.assertRaises(MartError) as caught:
            Desk(thing)
        self.assertIs(type(caught.exception), error)

    def test_of_no_markets_text(self):
        for thing in NO_TEXTS + [SMALL, "", "amounts", "amounts 1", "market", SMALL_TEXT + "\n", "\n" + SMALL_TEXT,
                                 SMALL_TEXT + " ", SMALL_TEXT.replace(" ", "  "), SMALL_TEXT.replace("7/2", "14/4"),
                                 SMALL_TEXT.replace("5", "05"), SMALL_TEXT.replace("10", "61"), SMALL_TEXT + " 1"]:
            self.assert_not_made(NoText, thing)

    def test_unwished(self):
        for market in helper.with_wishless(148, 30):
            self.assert_not_made(Unwished, market_text(market))

    def test_no_text_goes_ahead_of_unwished(self):
        for market in helper.with_wishless(149, 10):
            for text in [market_text(market) + "\n", market_text(market) + " 0", market_text(market).replace(" 0", " 00", 1)]:
                self.assert_not_made(NoText, text)


if __name__ == "__main__":
    unittest.main()
