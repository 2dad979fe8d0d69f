"""burstshop.words: promises [60] to [62], and [2] to [4] there."""

import itertools
import unittest

from burstshop import words as module
from burstshop.errors import InvalidWord, LimitExceeded
from burstshop.tables import Table
from burstshop.words import Word
from tests.helper import Case, alternating, anything, exchanged, is_cut, names, sample, slow_combined, words


def is_text_of_word(thing):
    """The words of [60]."""
    if not isinstance(thing, str) or not 1 <= len(thing) <= 1000 or set(thing) - set("01"):
        return False
    return all(a != b for a, b in zip(thing, thing[1:]))


def interleaved(head, v, w):
    """All words of an and or an or of two signals with delays of their own."""
    gate = {"and": min, "or": max}[head]
    found = {(0, 0): {gate(v[0], w[0])}}
    for i, j in itertools.product(range(len(v)), range(len(w))):
        sign = gate(v[i], w[j])
        before = found.get((i - 1, j), set()) | found.get((i, j - 1), set())
        found[i, j] = {word if word[-1] == sign else word + sign for word in before} or found[i, j]
    return found[len(v) - 1, len(w) - 1]


class Words(Case):
    def test_the_interface(self):
        self.stands_in(module, ["Word"])
        for name in ("__init__", "__or__", "__and__", "__invert__", "__eq__"):
            self.assertIn(name, vars(Word))

    def test_a_word(self):
        for text in words(9) + [alternating(first, many) for first in "01" for many in (10, 11, 500, 999, 1000)]:
            word = Word(text)
            self.assertEqual(word.text, text)
            self.assertEqual([word.zeros, word.ones], [text.count("0"), text.count("1")])
        self.assertEqual([Word("0").zeros, Word("0").ones, Word("1").zeros, Word("1").ones], [1, 0, 0, 1])
        self.assertEqual([Word(text="01010").zeros, Word(text="01010").ones], [3, 2])

    def test_what_is_no_word(self):
        short = ["".join(signs) for many in range(9) for signs in itertools.product("01", repeat=many)]
        edges = [alternating("0", 1001), alternating("1", 1001), alternating("1", 2000), "0" * 1000, "01" * 500 + "0",
                 "01" * 499 + "00", "1" + "10" * 400, "01" * 100 + "10" * 100]
        odd = ["-", "0-", "01-", "-01", "01 ", " 01", "01\n", "\n", "2", "012", "10x", "o1", "0,1", b"0", b"01",
               ["0", "1"],
               ("0", "1"), ["01"], 0, 1, 10, 101, True, False, None, Word("01")]
        for thing in short + edges + odd + anything():
            with self.subTest(thing=names(thing)):
                if is_text_of_word(thing):
                    self.assertEqual(Word(thing).text, thing)
                else:
                    self.refuses(InvalidWord, {}, Word, thing)

    def test_not(self):
        for text in words(9) + [alternating("1", 999), alternating("0", 1000)]:
            word = Word(text)
            self.assertEqual((~word).text, exchanged(text))
            self.assertEqual([(~word).zeros, (~word).ones], [word.ones, word.zeros])
            self.assertEqual((~~word).text, text)
            self.assertIs(type(~word), Word)
            self.assertEqual(word.text, text)

    def test_or_and_and(self):
        for v, w in itertools.product(words(8), repeat=2):
            one, other = Word(v), Word(w)
            either, both = one | other, one & other
            self.assertEqual([either.text, both.text], [slow_combined("or", v, w), slow_combined("and", v, w)])
            self.assertEqual([type(either), type(both)], [Word, Word])
            self.assertEqual([either.zeros, both.ones], [either.text.count("0"), both.text.count("1")])
            self.assertEqual([one.text, other.text], [v, w])

    def test_the_words_0_and_1(self):
        for text in words(6) + [alternating("0", 1000), alternating("1", 1000), alternating("1", 999)]:
            word, zero, one = Word(text), Word("0"), Word("1")
            self.assertEqual([(word | one).text, (one | word).text], ["1", "1"])
            self.assertEqual([(word & zero).text, (zero & word).text], ["0", "0"])
            self.assertEqual([(word | zero).text, (zero | word).text], [text, text])
            self.assertEqual([(word & one).text, (one & word).text], [text, text])

    def test_examples_of_the_document(self):
        self.assertEqual((Word("01") | Word("10")).text, "101")
        self.assertEqual((Word("010") | Word("10")).text, "1010")
        self.assertEqual((Word("010") & Word("01")).text, "010")

    def test_the_same_word_on_both_sides(self):
        word = Word("0101")
        self.assertEqual([(word | word).text, (word & word).text], ["010101", "010101"])

    def test_the_longest_word_of_signals_with_their_own_delays(self):
        for v, w in itertools.product(words(6), repeat=2):
            for head, told in (("or", Word(v) | Word(w)), ("and", Word(v) & Word(w))):
                found = interleaved(head, v, w)
                self.assertIn(told.text, found)
                self.assertEqual(max(map(len, found)), len(told.text))

    def test_results_of_1000_signs_and_of_1001(self):
        sizes = [1, 2, 3, 4, 5, 498, 499, 500, 501, 502, 503, 504, 996, 997, 998, 999, 1000]
        long = [alternating(first, many) for many in sizes for first in "01"]
        seen = set()
        for v, w in itertools.product(long, repeat=2):
            seen.add(self.check_limit("or", v, w))
            seen.add(self.check_limit("and", v, w))
        self.assertLessEqual({999, 1000, 1001, 1002}, seen)

    def check_limit(self, head, v, w):
        if head == "or":
            def call():
                return Word(v) | Word(w)
        else:
            def call():
                return Word(v) & Word(w)
        told = slow_combined(head, v, w)
        if len(told) > 1000:
            self.refuses(LimitExceeded, {"limit": 1000}, call)
        else:
            self.assertEqual(call().text, told)
        return len(told)

    def test_the_limit_at_its_edge(self):
        full = alternating("0", 1000)
        self.assertEqual((Word(full) | Word("01")).text, full)
        self.assertEqual((Word(alternating("0", 999)) | Word("01")).text, full)
        self.assertEqual((Word("01") & Word(alternating("1", 999))).text, full)
        self.assertEqual((Word(alternating("0", 501)) | Word(alternating("0", 500))).text, full)
        self.assertEqual((Word(alternating("0", 501)) | Word(alternating("0", 499))).text, alternating("0", 999))
        # 1001 signs
        self.refuses(LimitExceeded, {"limit": 1000}, lambda: Word(full) | Word("10"))
        self.refuses(LimitExceeded, {"limit": 1000}, lambda: Word("01") | Word(alternating("1", 1000)))
        self.refuses(LimitExceeded, {"limit": 1000}, lambda: Word("10") & Word(full))
        self.refuses(LimitExceeded, {"limit": 1000}, lambda: Word(alternating("0", 501)) | Word(alternating("0", 501)))
        self.refuses(LimitExceeded, {"limit": 1000}, lambda: Word(alternating("1", 501)) & Word(alternating("1", 501)))
        # 1002 signs and more
        self.refuses(LimitExceeded, {"limit": 1000}, lambda: Word(full) | Word("010"))
        self.refuses(LimitExceeded, {"limit": 1000}, lambda: Word(full) & Word(full))
        self.refuses(LimitExceeded, {"limit": 1000}, lambda: Word(full) | Word(full))

    def test_equal_words(self):
        for v, w in itertools.product(words(5), repeat=2):
            self.says(v == w, Word(v) == Word(w))
            self.says(v != w, Word(v) != Word(w))
        self.says(True, (Word("01") | Word("10")) == Word("101"))
        self.says(True, ~Word("0") == Word("1"))
        for thing in anything() + ["01", Table("01"), ["01"], Word]:
            with self.subTest(thing=names(thing)):
                same = isinstance(thing, Word) and thing.text == "01"
                self.says(same, Word("01") == thing)
                self.says(same, thing == Word("01"))
                self.says(not same, Word("01") != thing)

    def test_cuts(self):
        for v, w in itertools.product(words(6), repeat=2):
            either, both = (Word(v) | Word(w)).text, (Word(v) & Word(w)).text
            for a, b in itertools.product(words(6), repeat=2):
                if is_cut(a, v) and is_cut(b, w):
                    self.assertTrue(is_cut((Word(a) | Word(b)).text, either), (v, w, a, b))
                    self.assertTrue(is_cut((Word(a) & Word(b)).text, both), (v, w, a, b))

    def test_cuts_of_long_words(self):
        source = sample(3)
        for _ in range(300):
            v, w = [alternating(source.choice("01"), source.randint(20, 450)) for _ in range(2)]
            a, b = [word[:-2 * source.randint(0, (len(word) - 1) // 2)] or word for word in (v, w)]
            if len(v) % 2 == len(a) % 2 and len(w) % 2 == len(b) % 2:
                self.assertTrue(is_cut((Word(a) | Word(b)).text, (Word(v) | Word(w)).text))
                self.assertTrue(is_cut((Word(a) & Word(b)).text, (Word(v) & Word(w)).text))


if __name__ == "__main__":
    unittest.main()
