"""The words of a row of works: names, numbers and odds."""

from faultwood.shares import figures_in

LETTERS = "abcdefghijklmnopqrstuvwxyz"
LETTERS_AND_FIGURES = "abcdefghijklmnopqrstuvwxyz0123456789"
MOST_SIGNS_OF_NAME = 8
MOST_FIGURES_OF_NUMBER = 7

# These words have a meaning of their own in a row, so no name may be one.
NO_NAMES = ("part", "better", "spare", "gate", "brings", "top", "all", "any")


def is_name(thing):
    """Tell whether a thing is a name."""
    if not isinstance(thing, str) or thing in NO_NAMES:
        return False
    if not 1 <= len(thing) <= MOST_SIGNS_OF_NAME:
        return False
    return thing[0] in LETTERS and all(sign in LETTERS_AND_FIGURES for sign in thing)


def number_in(word):
    """Tell the number that a word writes, None of other words."""
    if len(word) > MOST_FIGURES_OF_NUMBER:
        return None
    return figures_in(word)


def odds_in(word):
    """Tell the two numbers (N, D) that a word N/D writes, None of other words."""
    # A second bar stays in what is behind the first one, and is no figure.
    ahead, _, behind = word.partition("/")
    number = number_in(ahead)
    parts = number_in(behind)
    if number is None or parts is None:
        return None
    return (number, parts)


def words_of(row):
    """Tell the words of a row, without its remark."""
    told = row.partition("#")[0]
    # Blanks side by side leave empty pieces, which are no words.
    return [word for word in told.split(" ") if word]
