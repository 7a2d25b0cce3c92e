"""Words that lie under one another."""

from bondwords.errors import TooGreat
from bondwords.rows import first_row, length, pressed, row_of, word_of
from bondwords.shortest import is_shortest, least_word
from bondwords.words import fewer_first

MOST_BELOW = 12


def least_to_strike(bonds, word):
    """The least shortest word, if it is not too long to look at all words below it."""
    letters = least_word(bonds, word)
    if len(letters) > MOST_BELOW:
        raise TooGreat(MOST_BELOW)
    return letters


def rows_below(bonds, word):
    """A list of the rows of all words below a word, each once."""
    rows = [first_row(bonds)]
    for letter in least_to_strike(bonds, word):
        # Each word below what stands so far has this letter struck out, or keeps it.
        rows = sorted(set(rows + [pressed(bonds, row, letter) for row in rows]))
    return rows


def kept(bonds, one, other):
    """Places of the least word of the other whose letters are a shortest word of the one; None if it is not below."""
    row = row_of(bonds, one)
    letters = least_word(bonds, other)
    places = ()
    # If both words can end with a letter, the one is below the other exactly if it is so without this
    # letter; if the other alone can, its letter is not needed. So a letter is kept wherever it fits.
    for place in reversed(range(len(letters))):
        if row[letters[place] - 1] < 0:
            row = pressed(bonds, row, letters[place])
            places = (place, *places)
    return places if row == first_row(bonds) else None


def is_below(bonds, one, other):
    """Whether the one is below the other."""
    return kept(bonds, one, other) is not None


def is_just_below(bonds, one, other):
    """Whether the one is below the other, and its shortest words have one letter less."""
    return is_below(bonds, one, other) and length(bonds, one) == length(bonds, other) - 1


def words_below(bonds, word):
    """A generator of the least shortest words of all words below a word, the ones with fewer letters first."""
    found = fewer_first([word_of(bonds, row) for row in rows_below(bonds, word)])
    yield from found


def count_below(bonds, word):
    """How many words are below a word, no two alike."""
    return len(rows_below(bonds, word))


def just_below(bonds, word):
    """An ascending tuple of the least shortest words of all words just below a word."""
    letters = least_to_strike(bonds, word)
    left = [letters[:place] + letters[place + 1:] for place in range(len(letters))]
    return tuple(sorted({least_word(bonds, rest) for rest in left if is_shortest(bonds, rest)}))
