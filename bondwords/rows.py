"""Rows of whole numbers, which are the same exactly for words that are alike."""

from bondwords.bonds import MOST_WORD, is_letter, is_whole
from bondwords.errors import BadNumber, BadRow
from bondwords.words import as_word


def is_row(bonds, value):
    """Whether a value is a row for these letters, be it that of a word or not."""
    if not isinstance(value, tuple) or len(value) != len(bonds):
        return False
    return all([is_whole(number) for number in value])


def first_row(bonds):
    """The row of the empty word."""
    return (1,) * len(bonds)


def pressed(bonds, row, letter):
    """The row behind a letter, both known to be right."""
    number = row[letter - 1]
    # The weight -2 of the letter with itself makes its own number -number.
    weights = bonds.weights[letter - 1]
    return tuple([old + weight * number for old, weight in zip(row, weights)])


def row_behind(bonds, letters):
    """The row of letters that are known to be right, in their order."""
    row = first_row(bonds)
    for letter in letters:
        row = pressed(bonds, row, letter)
    return row


def fallen(row):
    """An ascending tuple of the letters whose numbers are below 0."""
    return tuple([at + 1 for at, number in enumerate(row) if number < 0])


def way_down(bonds, row):
    """The letters pressed, always the least of the fallen, and the row at the end.

    It stops after MOST_WORD letters, because a row that is not that of a word may have no end.
    """
    letters = []
    now = row
    low = fallen(now)
    while low and len(letters) < MOST_WORD:
        letters.append(low[0])
        now = pressed(bonds, now, low[0])
        low = fallen(now)
    return letters, now


def press(bonds, row, letter):
    """The row behind a letter."""
    if not is_row(bonds, row):
        raise BadRow(row)
    if not is_letter(letter, len(bonds)):
        raise BadNumber(letter)
    return pressed(bonds, row, letter)


def row_of(bonds, word):
    """The row of a word."""
    return row_behind(bonds, as_word(word, len(bonds)))


def word_of(bonds, row):
    """The first one, in ascending order, of the shortest words with this row."""
    if not is_row(bonds, row):
        raise BadRow(row)
    letters, end = way_down(bonds, row)
    if end != first_row(bonds):
        raise BadRow(row)
    # The letters spell a shortest word from its end to its front. Behind them
    # stands the row of that word gone the other way, whose fallen letters are
    # those it can begin with: the least of them each time spells the first word.
    return tuple(way_down(bonds, row_behind(bonds, letters))[0])


def length(bonds, word):
    """How many letters the shortest words have that are alike to the word."""
    return len(way_down(bonds, row_of(bonds, word))[0])


def alike(bonds, one, other):
    """Whether two words are alike."""
    return row_of(bonds, one) == row_of(bonds, other)


def firsts(bonds, word):
    """An ascending tuple of the letters with which shortest words that are alike begin."""
    return fallen(row_behind(bonds, as_word(word, len(bonds))[::-1]))


def lasts(bonds, word):
    """An ascending tuple of the letters with which shortest words that are alike end."""
    return fallen(row_of(bonds, word))
