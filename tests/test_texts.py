"""Promise 22: texts of fractions and of markets; and promise 2 as far as it speaks of them."""

import itertools
import math
import random
import re
import unittest

import helper
from helper import LARGEST, MILLION
from wishmart.errors import MartError, NoText
from wishmart.markets import is_market
from wishmart.texts import fraction_text, market_text, read_fraction, read_market

SIGNS = [chr(code) for code in range(ord(" "), ord("~") + 1) if chr(code) != "%"] + ["\n"]
MARKET = ((10, 4, 60), ((5, 1), (7, 2)), ((3, 0, 0), (1, 20, 100)))
MARKET_TEXT = "amounts 10 4 60\nbuyer 5 3 0 0\nbuyer 7/2 1 20 100"
SMALL = ((1,), ((1, 1),), ((0,),))
SMALL_TEXT = "amounts 1\nbuyer 1 0"
MARKETS = ([MARKET, SMALL] + helper.some_markets(131, 60) + helper.with_wishless(132, 30) + helper.GREAT
           + helper.some_markets(133, 5, least=6))

NO_TEXTS = [True, False, None, 0, 1, -1, 12, LARGEST, (), (1, 2), (1, 1), ("1",), ("1", "2"), [], ["1"], [1, 2], MARKET,
            (None,), ((1, 1), (1, 1)), [["amounts", "1"]], helper.deep_nest()]

NUMBER = r"(?:0|[1-9][0-9]*)"


def writes_fraction(text):
    """Whether a text is just so written of a fraction from nought on, by the words of the document."""
    found = re.fullmatch(f"({NUMBER})(?:/({NUMBER}))?", text)
    if not found:
        return False
    top, bottom = int(found[1]), int(found[2] or 1)
    return found[2] is None or (bottom > 1 and math.gcd(top, bottom) == 1)


def writes_market(text):
    """Whether a text is just so written of a market."""
    lines = text.split("\n")
    if not re.fullmatch(f"amounts(?: {NUMBER})+", lines[0]):
        return False
    amounts = [int(word) for word in lines[0].split(" ")[1:]]
    if not all(1 <= number <= 60 for number in amounts) or not (len(amounts) <= 6 and 1 <= len(lines) - 1 <= 6):
        return False
    for line in lines[1:]:
        found = re.fullmatch(f"buyer ([0-9/]+)((?: {NUMBER})+)", line)
        if not found or not writes_fraction(found[1]):
            return False
        wishes = [int(word) for word in found[2].split()]
        purse = [int(word) for word in found[1].split("/")]
        if len(wishes) != len(amounts) or max(wishes) > 100 or max(purse) > MILLION or purse[0] == 0:
            return False
    return True


def with_one_sign(text, chance, many):
    """The text with a sign put in, taken out, told twice, exchanged with the next one, put in another one's place."""
    for at in range(len(text)):
        yield text[:at] + text[at + 1:]
        yield text[:at] + text[at] + text[at:]
        if at + 1 < len(text):
            yield text[:at] + text[at + 1] + text[at] + text[at + 2:]
    for at in range(len(text) + 1):
        for sign in chance.sample(SIGNS, many) + ["0", "1", " ", "/", "\n", "-", "+", ".", "_"]:
            yield text[:at] + sign + text[at:]
            yield text[:at] + sign + text[at + 1:]


def with_one_part(text, mark, others):
    """The text with a word, or a line, put in, taken out, told twice, exchanged, put in another one's place."""
    parts = text.split(mark)
    for at in range(len(parts) + 1):
        for other in others:
            yield mark.join(parts[:at] + [other] + parts[at:])
            yield mark.join(parts[:at] + [other] + parts[at + 1:])
    for at in range(len(parts)):
        yield mark.join(parts[:at] + parts[at + 1:])
        yield mark.join(parts[:at] + [parts[at]] + parts[at:])
        for to in range(at):
            moved = list(parts)
            moved[at], moved[to] = moved[to], moved[at]
            yield mark.join(moved)


class TextsCase(unittest.TestCase):
    def assert_no_text(self, reader, thing):
        with self.assertRaises(MartError) as caught:
            reader(thing)
        self.assertIs(type(caught.exception), NoText)

    def assert_reads(self, reader, writer, text, right):
        """What is just so written is read to what is written so, all else is refused."""
        if right:
            told = reader(text)
            self.assertEqual(writer(told), text)
        else:
            with self.subTest(text=text):
                self.assert_no_text(reader, text)


class FractionTextTest(TextsCase):
    def assert_fraction(self, text):
        self.assert_reads(read_fraction, fraction_text, text, writes_fraction(text))

    def test_told_as_written_out(self):
        for number, text in [((0, 1), "0"), ((1, 1), "1"), ((10, 1), "10"), ((1, 2), "1/2"), ((7, 3), "7/3"),
                             ((100, 9), "100/9"), ((9, 100), "9/100"), ((LARGEST, 1), "9" * 60),
                             ((1, 10 ** 59), "1/1" + "0" * 59), ((LARGEST, LARGEST - 1), "9" * 60 + "/" + "9" * 59 + "8")]:
            told = fraction_text(number)
            self.assertIs(type(told), str)
            self.assertEqual(told, text)
            self.assertEqual(read_fraction(text), number)
            self.assertTrue(helper.is_lowest(read_fraction(text)))

    def test_below_nought_they_are_written_but_not_read(self):
        for number, text in [((-1, 1), "-1"), ((-3, 2), "-3/2"), ((-LARGEST, 10 ** 59), "-" + "9" * 60 + "/1" + "0" * 59)]:
            self.assertEqual(fraction_text(number), text)
            self.assert_no_text(read_fraction, text)

    def test_all_small_ones(self):
        for top, bottom in itertools.product(range(30), range(30)):
            self.assert_fraction(f"{top}/{bottom}")
            if bottom and math.gcd(top, bottom) == 1:
                self.assertEqual(read_fraction(fraction_text((top, bottom))), (top, bottom))

    def test_all_short_texts(self):
        for size in range(5):
            for signs in itertools.product("012/ -", repeat=size):
                self.assert_fraction("".join(signs))
        for one, other in itertools.product(SIGNS, repeat=2):
            self.assert_fraction(one + other)

    def test_one_sign_or_word_otherwise(self):
        chance = random.Random(134)
        for number in [(0, 1), (7, 1), (10, 1), (7, 3), (100, 99), (999983, MILLION), (LARGEST, LARGEST - 1)]:
            text = fraction_text(number)
            for other in with_one_sign(text, chance, 20):
                self.assert_fraction(other)
            for other in with_one_part(text, "/", ["", "1", "0", "2", "01"]):
                self.assert_fraction(other)

    def test_not_just_so_written(self):
        for text in ["", " ", "/", "1/", "/2", "1//2", "1/2/3", "1/1", "0/1", "0/2", "2/4", "6/3", "1/0", "0/0", "00", "01",
                     "01/2", "1/02", "+1", "-1", "-0", "1/-2", "+1/2", " 1", "1 ", "1 /2", "1/ 2", "1\n", "\n1", "1/2\n",
                     "1.5", "1e3", "1_000", "0x1", "one", "a", "1/2 ", "(1, 2)", "1,2", "1:2", "1\\2", "--1", "1/2/"]:
            self.assert_no_text(read_fraction, text)

    def test_figures_of_other_scripts(self):
        for text in ["\u0661", "\u00b2", "1/\u0662", "\uff11", "1\u00a0", "\u00bd", "1\t", "1\r", "\x0b1", "1\x00"]:
            self.assert_no_text(read_fraction, text)

    def test_long_texts(self):
        for text in ["9" * 2000, "1" + "0" * 1999, "1" * 999 + "/" + "1" + "0" * 998]:
            self.assertEqual(fraction_text(read_fraction(text)), text)
        # Beyond what is handed in: read all the same, or refused.
        self.assertEqual(read_fraction("1" + "0" * 6000), (10 ** 6000, 1))
        self.assert_no_text(read_fraction, "0" * 6000)
        self.assert_no_text(read_fraction, "9" * 3000 + "/" + "9" * 3000)

    def test_no_texts(self):
        for thing in NO_TEXTS:
            self.assert_no_text(read_fraction, thing)


class MarketTextTest(TextsCase):
    def assert_market(self, text):
        self.assert_reads(read_market, market_text, text, writes_market(text))

    def test_told_as_written_out(self):
        self.assertEqual(market_text(MARKET), MARKET_TEXT)
        self.assertEqual(market_text(SMALL), SMALL_TEXT)
        self.assertEqual(read_market(MARKET_TEXT), MARKET)
        self.assertEqual(read_market(SMALL_TEXT), SMALL)

    def test_what_is_written_is_read_to_the_same(self):
        for market in MARKETS:
            text = market_text(market)
            self.assertIs(type(text), str)
            self.assertTrue(writes_market(text), text)
            told = read_market(text)
            self.assertEqual(told, market)
            self.assertTrue(is_market(told))

    def test_one_sign_otherwise(self):
        chance = random.Random(135)
        for text in [MARKET_TEXT, SMALL_TEXT, market_text(helper.GREAT[4])]:
            for other in with_one_sign(text, chance, 12):
                self.assert_market(other)

    def test_one_word_otherwise(self):
        others = ["", "0", "1", "01", "61", "100", "101", "1/2", "2/4", "-1", "amounts", "buyer", "1000001", "1000000"]
        for text in [MARKET_TEXT, SMALL_TEXT]:
            for other in with_one_part(text, " ", others):
                self.assert_market(other)

    def test_one_line_otherwise(self):
        others = ["", " ", "amounts 1 1 1", "amounts 1", "buyer 1 1 1 1", "buyer 1 1", "buyer 1 1 1", "buyer 1", "buyer",
                  "amounts", "buyer 0 1 1 1", "buyer 1/2 1 2 3", "seller 1 1 1 1", "market"]
        for text in [MARKET_TEXT, SMALL_TEXT]:
            for other in with_one_part(text, "\n", others):
                self.assert_market(other)

    def test_words_and_lines_with_others_between(self):
        for text in [MARKET_TEXT, SMALL_TEXT]:
            for mark in ["  ", "\t", "\n", "", ",", "_", " \n", "\r"]:
                self.assert_no_text(read_market, text.replace(" ", mark))
            for mark in ["\n\n", " ", "\r\n", "\n ", " \n", "", ";", "\r", "\x0b", "\x0c", "\x1c", "\u2028"]:
                self.assert_no_text(read_market, text.replace("\n", mark))

    def test_at_either_end(self):
        for text in [MARKET_TEXT, SMALL_TEXT]:
            for mark in ["\n", " ", "\t", "\r", "0", "a", "\n\n", " \n"]:
                self.assert_no_text(read_market, mark + text)
                if mark != "0":
                    self.assert_no_text(read_market, text + mark)
        self.assert_no_text(read_market, SMALL_TEXT + "0")

    def test_not_just_so_written(self):
        for text in ["", " ", "\n", "amounts", "amounts 1", "amounts\nbuyer 1", "amounts \nbuyer 1 ", "buyer 1 1",
                     "buyer 1 1\namounts 1", "Amounts 1\nbuyer 1 1", "amounts 1\nBuyer 1 1", "amount 1\nbuyer 1 1",
                     "amounts 1\nbuyers 1 1", "amounts 1\nbuyer 1", "amounts 1\nbuyer 1 1 1", "amounts 1\nbuyer 1/1 1",
                     "amounts 1\nbuyer 2/2 1", "amounts 1\nbuyer 0 1", "amounts 1\nbuyer -1 1", "amounts 1\nbuyer 1 -1",
                     "amounts 0\nbuyer 1 1", "amounts 61\nbuyer 1 1", "amounts 1\nbuyer 1 101", "amounts 1\nbuyer 1 1/2",
                     "amounts 1/2\nbuyer 1 1", "amounts 1\nbuyer 1000001 1", "amounts 1\nbuyer 1/1000001 1",
                     "amounts 01\nbuyer 1 1", "amounts 1\nbuyer 01 1", "amounts 1\nbuyer 1 01", "amounts 1\nbuyer 1 00",
                     "amounts 1\nbuyer 1 \u0661", repr(SMALL)]:
            self.assert_no_text(read_market, text)
        for text in ["amounts 60\nbuyer 1000000 100", "amounts 1\nbuyer 1/1000000 0", "amounts 1\nbuyer 999999/1000000 1"]:
            self.assertEqual(market_text(read_market(text)), text)

    def test_too_many_goods_and_buyers(self):
        for goods, buyers in itertools.product(range(9), repeat=2):
            text = "amounts" + " 1" * goods + ("\nbuyer 1" + " 1" * goods) * buyers
            self.assert_market(text)
            self.assertEqual(writes_market(text), 1 <= goods <= 6 and 1 <= buyers <= 6)

    def test_long_texts(self):
        for text in ["amounts " + "1" * 1900 + "\nbuyer 1 1", "amounts 1\nbuyer " + "9" * 1900 + " 1",
                     "amounts" + " 1" * 900 + "\nbuyer 1 1", SMALL_TEXT + "\nbuyer 1 0" * 190, "a" * 2000, "\n" * 2000,
                     " " * 2000, "amounts " + "1" * 6000 + "\nbuyer 1 1", "amounts 1\nbuyer 1 " + "0" * 6000]:
            self.assert_no_text(read_market, text)

    def test_no_texts(self):
        for thing in NO_TEXTS + MARKETS[:3]:
            self.assert_no_text(read_market, thing)

    def test_the_same_again(self):
        for market in MARKETS[:20]:
            before = repr(market)
            text = market_text(market)
            self.assert_no_text(read_market, text + "\n")
            self.assertEqual(market_text(market), text)
            self.assertEqual(read_market(text), read_market(text))
            self.assertEqual(repr(market), before)
        things = [["amounts 1"], [1, [2]], ("1", ["2"])]
        before = repr(things)
        for thing in things:
            self.assert_no_text(read_market, thing)
            self.assert_no_text(read_fraction, thing)
        self.assertEqual(repr(things), before)


if __name__ == "__main__":
    unittest.main()
