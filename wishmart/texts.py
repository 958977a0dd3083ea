"""Texts: how fractions and markets are written and read."""

from wishmart.errors import NoText
from wishmart.fractions import is_fraction
from wishmart.markets import is_market


def fraction_text(number):
    """Tell the text that writes a fraction."""
    top, bottom = number
    return f"{top}" if bottom == 1 else f"{top}/{bottom}"


def market_text(market):
    """Tell the text that writes a market."""
    amounts, purses, wishes = market
    lines = [numbers_text(["amounts"], amounts)]
    for purse, row in zip(purses, wishes):
        lines.append(numbers_text(["buyer", fraction_text(purse)], row))
    return "\n".join(lines)


def numbers_text(words, numbers):
    """Tell the line of some words and the numbers behind them."""
    return " ".join(words + [str(number) for number in numbers])


def need_text(thing):
    """Refuse what is no text."""
    if not isinstance(thing, str):
        raise NoText("this is no text")


def read_number(word):
    """Tell the whole number from nought on that a word writes."""
    # Python counts figures of other scripts among the figures, but none of these is written here.
    if not word.isascii() or not word.isdigit() or (word[0] == "0" and word != "0"):
        raise NoText("this is not written as a number is")
    # One figure behind the other, for int() refuses a word of some thousand figures.
    number = 0
    for figure in word:
        number = number * 10 + int(figure)
    return number


def read_numbers(words):
    """Tell the whole numbers that some words write."""
    return tuple([read_number(word) for word in words])


def read_fraction(text):
    """Tell the fraction from nought on that a text writes."""
    need_text(text)
    numbers = read_numbers(text.split("/"))
    if len(numbers) == 1:
        return (numbers[0], 1)
    # A bottom of 1 is never written.
    if not is_fraction(numbers) or numbers[1] == 1:
        raise NoText("this is not written as a fraction is")
    return numbers


def read_market(text):
    """Tell the market that a text writes."""
    need_text(text)
    first, *others = [line.split(" ") for line in text.split("\n")]
    if first[0] != "amounts" or not all([len(words) > 1 and words[0] == "buyer" for words in others]):
        raise NoText("this is not written as a market is")
    purses = tuple([read_fraction(words[1]) for words in others])
    market = (read_numbers(first[1:]), purses, tuple([read_numbers(words[2:]) for words in others]))
    if not is_market(market):
        raise NoText("there is no such market")
    return market
