"""Words: what a signal shows, one sign after the other, and how gates combine signals."""

from burstshop.errors import InvalidWord, LimitExceeded
from burstshop.signs import is_signs


class Word:
    """A string of 1 to 1000 signs "0" and "1" in which neighbours differ."""

    def __init__(self, text):
        if not is_word(text):
            raise InvalidWord()
        self.text = text
        self.zeros = text.count("0")
        self.ones = text.count("1")

    def __eq__(self, other):
        return isinstance(other, Word) and self.text == other.text

    def __invert__(self):
        return Word(not_word(self.text))

    def __or__(self, other):
        if not isinstance(other, Word):
            return NotImplemented
        return Word(bounded(or_words(self.text, other.text)))

    def __and__(self, other):
        if not isinstance(other, Word):
            return NotImplemented
        return Word(bounded(and_words(self.text, other.text)))


def is_word(thing):
    """Tell whether thing is the text of a word."""
    if not isinstance(thing, str) or not 1 <= len(thing) <= 1000:
        return False
    return is_signs(thing, len(thing), "01") and "00" not in thing and "11" not in thing


def not_word(word):
    """Return the text of a word with its signs exchanged."""
    return "".join(["1" if sign == "0" else "0" for sign in word])


def or_words(v, w):
    """Return the text of the longest word that an or can show while its parts show two words."""
    if "1" in (v, w):
        return "1"
    zeros = v.count("0") + w.count("0") - 1
    head = "1" if "1" in (v[0], w[0]) else ""
    tail = "1" if "1" in (v[-1], w[-1]) else ""
    return head + "01" * (zeros - 1) + "0" + tail


def and_words(v, w):
    """Return the text of the longest word that an and can show while its parts show two words."""
    return not_word(or_words(not_word(v), not_word(w)))


def bounded(text):
    """Return the text of a word if it is not too long."""
    if len(text) > 1000:
        raise LimitExceeded(1000)
    return text
