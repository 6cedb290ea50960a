"""Words: numbers as texts write them."""

from fewsaves.works import BOXES

FIGURES = "0123456789"

MOST_FIGURES = 9

GREATEST = 10 ** 12


def read_figures(word, most):
    """The number that at most so many figures write, None where the word isn't so written."""
    if not 1 <= len(word) <= most or not all([sign in FIGURES for sign in word]):
        return None
    if word[0] == "0" and word != "0":
        return None
    return int(word)


def read_number(word):
    """The number of at most nine figures that the word writes, None where it isn't so written."""
    return read_figures(word, MOST_FIGURES)


def read_box(word):
    """The box that the word names, None where it names none."""
    box = read_number(word)
    return None if box is None or box >= BOXES else box


def read_held(word):
    """The number, maybe below 0, that the word tells a box to hold, None where it isn't so written."""
    minus = word.startswith("-")
    held = read_figures(word[1:] if minus else word, len(str(GREATEST)))
    if held is None or held > GREATEST or minus and held == 0:
        return None
    return -held if minus else held


def joined(words):
    """The words by blanks, - of none."""
    return " ".join(words) if words else "-"
