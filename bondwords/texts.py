"""Texts of bonds and of words, and what is read from them."""

from bondwords.bonds import MOST_LETTERS, MOST_WORD, Bonds
from bondwords.errors import BadText, TooGreat
from bondwords.words import as_word

LETTERS = "123456"
NUMBERS = "012346"


def check_kind(value):
    """Refuses what is no string."""
    if not isinstance(value, str):
        raise BadText(None)


def numbers_of(line):
    """A list of the numbers of one digit that stand in a line, one blank between two of them."""
    return [int(digit) for digit in line[::2]]


def fits_word(at, character):
    """Whether a character can stand at this place of a text of a word."""
    return character == " " if at & 1 else character in LETTERS


def fits_table(many, at, character):
    """Whether a character can stand at this place of a text of bonds of so many letters."""
    # A line has a digit and what stands behind it for each letter, the line feed at its end included.
    column = at % (2 * many)
    if column == 2 * many - 1:
        return character == "\n"
    return character == " " if column & 1 else character in NUMBERS


def bonds_text(bonds):
    """Rows of bonds, with one space between two numbers and a line feed between two rows."""
    return "\n".join([" ".join([str(bond) for bond in row]) for row in bonds.table])


def word_text(word):
    """Letters with one space between them."""
    return " ".join([str(letter) for letter in as_word(word, MOST_LETTERS)])


def read_bonds(text):
    """The bonds of a text."""
    check_kind(text)
    lines = text.split("\n")
    # The first line tells how many numbers each line must have, even if this line cannot end where it does.
    many = min(len(lines[0]) // 2 + 1, MOST_LETTERS)
    # There is no line feed behind the last line.
    whole = 2 * many * many - 1
    for at, character in enumerate(text):
        if at >= whole or not fits_table(many, at, character):
            raise BadText(at)
    if len(text) < whole:
        raise BadText(len(text))
    return Bonds([numbers_of(line) for line in lines])


def read_word(text):
    """The word of a text, a tuple."""
    check_kind(text)
    for at, character in enumerate(text):
        if not fits_word(at, character):
            raise BadText(at)
    # A blank at the end asks for one more letter.
    if text.endswith(" "):
        raise BadText(len(text))
    letters = numbers_of(text)
    if len(letters) > MOST_WORD:
        raise TooGreat(MOST_WORD)
    return tuple(letters)
