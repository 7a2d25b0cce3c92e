"""What counts as a word, and the order in which words of different lengths are told."""

from bondwords.bonds import MOST_WORD, is_letter
from bondwords.errors import BadWord, TooGreat


def as_word(value, many):
    """The value as a tuple, if it is a word of letters from 1 to many; else its error."""
    if not isinstance(value, (list, tuple)):
        raise BadWord(None)
    if len(value) > MOST_WORD:
        raise TooGreat(MOST_WORD)
    for place, item in enumerate(value):
        if not is_letter(item, many):
            raise BadWord(place)
    return tuple(value)


def fewer_first(tuples):
    """A list of tuples of letters, those with fewer letters first, else ascending."""
    return sorted(tuples, key=lambda letters: (len(letters), letters))
