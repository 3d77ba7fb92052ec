"""Integers and words, as the checks and the texts of the other files need them."""

LETTERS = "abcdefghijklmnopqrstuvwxyz"
MOST_DIGITS = 60


def is_int(thing):
    """Whether any value is an integer; True and False are none."""
    return isinstance(thing, int) and thing is not True and thing is not False


def is_letters(thing, most):
    """Whether any value is a string of one to so many lower-case letters."""
    return (isinstance(thing, str) and 1 <= len(thing) <= most
            and all([letter in LETTERS for letter in thing]))


def integer_of(word):
    """The integer that a word of a text tells, or None."""
    digits = word.removeprefix("-")
    # The length comes first: Python refuses to read integers that are very long.
    if len(digits) > MOST_DIGITS or not digits.isascii() or not digits.isdigit():
        return None
    number = int(word)
    return number if str(number) == word else None


def word_behind(head, line):
    """The word behind this head if the line has these two words alone, or None."""
    words = line.split(" ")
    return words[1] if len(words) == 2 and words[0] == head else None
