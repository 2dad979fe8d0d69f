"""The shape of a word: its first sign, its last sign, and whether it is longer than needed.

What a gate makes of words has a shape that depends on their shapes alone, and each of the eight words below
has a shape of its own. A signal tells the shapes of a tree's word for many rows at once, where a row gives
a word to each letter: it is a tuple of three integers, and in each of them bit k tells of row k. The rows
are all rows of the eight words, numbered from 0 in the order of the words, the first letter's word first.
"""

from burstshop.trees import parts_of

WORDS = ("0", "1", "01", "10", "010", "101", "0101", "1010")


def row_words(row, many):
    """List the words that a row gives to so many letters."""
    return [WORDS[(row >> 3 * place) & 7] for place in range(many - 1, -1, -1)]


def all_rows(many):
    """Return the integer with a bit for each row of words of so many letters."""
    return (1 << (1 << 3 * many)) - 1


def letter_signal(at, many):
    """Return the signal of a letter by its place among so many letters."""
    first = spread([word[0] for word in WORDS], at, many)
    last = spread([word[-1] for word in WORDS], at, many)
    longer = spread(["1" if len(word) > 2 else "0" for word in WORDS], at, many)
    return (first, last, longer)


def spread(bits, at, many):
    """Return the integer with the bit of the letter's word for each row, given a bit for each word."""
    width = 1 << 3 * (many - 1 - at)
    # The first word belongs to the lowest bits, which are written last.
    block = "".join([bit * width for bit in bits[::-1]])
    return int(block * (1 << 3 * at), 2)


def tree_signal(tree, letters):
    """Return the signal of a tree, given a dict with the signals of its letters."""
    if tree[0] == "in":
        return letters[tree[1]]
    signals = [tree_signal(part, letters) for part in parts_of(tree)]
    if not signals:
        # The bits of -1 are all set, however many rows there are.
        return (-1, -1, 0) if tree[0] == "one" else (0, 0, 0)
    signal = signals[0]
    if tree[0] == "not":
        return not_signal(signal)
    for other in signals[1:]:
        signal = or_signal(signal, other) if tree[0] == "or" else and_signal(signal, other)
    return signal


def not_signal(signal):
    """Return the signal with the signs of the words exchanged."""
    first, last, longer = signal
    return (~first, ~last, longer)


def or_signal(v, w):
    """Return the signal of an or of two trees."""
    # Words that turn once, one up and the other down, make a word that is longer than needed.
    crossed = (v[0] ^ v[1]) & (w[0] ^ w[1]) & (v[0] ^ w[0])
    longer = (v[2] | w[2] | crossed) & ~(always_one(v) | always_one(w))
    return (v[0] | w[0], v[1] | w[1], longer)


def and_signal(v, w):
    """Return the signal of an and of two trees."""
    return not_signal(or_signal(not_signal(v), not_signal(w)))


def always_one(signal):
    """Return the integer with the bits of the rows for which the word is "1"."""
    first, last, longer = signal
    return first & last & ~longer
