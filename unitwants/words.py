"""Words of texts: names and numbers as they are written."""

LETTERS = "abcdefghijklmnopqrstuvwxyz"
FIGURES = "0123456789"
LONGEST_NAME = 8
# No bound is beyond 10 ** 6, and Python itself refuses to read a number of thousands of figures.
LONGEST_NUMBER = 7


def is_name(word):
    """Whether the text is a name: one to eight letters a to z."""
    return 1 <= len(word) <= LONGEST_NAME and all([sign in LETTERS for sign in word])


def number_in(word):
    """The number that is so written, without a nought ahead; None where it is none, or longer than any bound."""
    if not 1 <= len(word) <= LONGEST_NUMBER or not all([sign in FIGURES for sign in word]):
        return None
    if len(word) > 1 and word.startswith("0"):
        return None
    return int(word)
