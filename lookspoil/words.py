"""Words of texts and of lines, as they are read."""

MOST_DIGITS = 9
MOST_LETTERS = 8
DIGITS = "0123456789"
LETTERS = "abcdefghijklmnopqrstuvwxyz"


def is_number(word):
    """Whether the word is a decimal number without a sign and needless zeros, and not too long."""
    if not (1 <= len(word) <= MOST_DIGITS and all([sign in DIGITS for sign in word])):
        return False
    return word == "0" or word[0] != "0"


def is_word(word):
    """Whether something can be kept under the word."""
    return 1 <= len(word) <= MOST_LETTERS and all([sign in LETTERS for sign in word])


def numbers_of(words):
    """The tuple of the numbers that the words are, or None if some word is none."""
    if not all([is_number(word) for word in words]):
        return None
    return tuple([int(word) for word in words])


def pairs_of(words):
    """The tuple of the pairs of numbers that the words are, with a colon between both, or None if some word is none."""
    parts = [word.split(":") for word in words]
    if not all([len(part) == 2 and is_number(part[0]) and is_number(part[1]) for part in parts]):
        return None
    return tuple([(int(one), int(two)) for one, two in parts])
