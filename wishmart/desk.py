"""A desk: a fair that is told rows and answers with texts."""

from wishmart.clearing import worths
from wishmart.errors import NoRow, NoText
from wishmart.fairs import Fair
from wishmart.stretches import stretch
from wishmart.texts import fraction_text, market_text, read_fraction, read_market, read_number

MOST_FIGURES = 9
DONE = "ok"

# What stands behind the first word of each row that a desk knows.
FORMS = {
    "purse": ("number", "fraction"),
    "amount": ("number", "number"),
    "wish": ("number", "number", "number"),
    "back": (),
    "market": (),
    "prices": (),
    "worths": (),
    "rises": (),
    "stretch": ("number",),
}


def read_row(row):
    """Tell (word, said): the first word of a row, and the numbers and fractions behind it."""
    if not isinstance(row, str):
        raise NoRow("a row is a text")
    words = row.split(" ")
    if words[0] not in FORMS or len(words) - 1 != len(FORMS[words[0]]):
        raise NoRow("there is no such row")
    return (words[0], [read_word(form, word) for form, word in zip(FORMS[words[0]], words[1:])])


def read_word(form, word):
    """Tell the number or the fraction that a word of a row writes."""
    if any([len(part) > MOST_FIGURES for part in word.split("/")]):
        raise NoRow("a number of a row has too many figures")
    try:
        return read_fraction(word) if form == "fraction" else read_number(word)
    except NoText:
        raise NoRow("a number of a row is not written as numbers are") from None


def set_purse(fair, said):
    """Answer `purse BUYER FRACTION`."""
    fair.purse(said[0], said[1])
    return DONE


def set_amount(fair, said):
    """Answer `amount GOOD NUMBER`."""
    fair.amount(said[0], said[1])
    return DONE


def set_wish(fair, said):
    """Answer `wish BUYER GOOD NUMBER`."""
    fair.wish(said[0], said[1], said[2])
    return DONE


def go_back(fair, said):
    """Answer `back`."""
    fair.back()
    return DONE


def tell_market(fair, said):
    """Answer `market`."""
    return market_text(fair.market())


def tell_prices(fair, said):
    """Answer `prices`."""
    return fractions_text(fair.prices())


def tell_worths(fair, said):
    """Answer `worths`."""
    return fractions_text(worths(fair.market()))


def tell_rises(fair, said):
    """Answer `rises`."""
    return str(len(fair.last_rises()))


def tell_stretch(fair, said):
    """Answer `stretch BUYER`."""
    told = stretch(fair.market(), said[0])
    goods = ",".join([str(good) for good in told[1]])
    purse = "ever" if told[2] is None else fraction_text(told[2])
    return f"{goods} {purse}"


def fractions_text(numbers):
    """Tell the texts of some fractions, with blanks between."""
    return " ".join([fraction_text(number) for number in numbers])


ANSWERS = {
    "purse": set_purse,
    "amount": set_amount,
    "wish": set_wish,
    "back": go_back,
    "market": tell_market,
    "prices": tell_prices,
    "worths": tell_worths,
    "rises": tell_rises,
    "stretch": tell_stretch,
}


class Desk:
    """A fair that is told rows."""

    def __init__(self, text):
        self.fair = Fair(read_market(text))

    def say(self, row):
        """Answer a row with a text."""
        word, said = read_row(row)
        answer = ANSWERS[word]
        return answer(self.fair, said)
