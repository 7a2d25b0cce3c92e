"""What counts as a word."""

from bondwords.bonds import MOST_WORD, is_letter
from bondwords.errors import BadWord, TooGreat


def as_word(value, many):
    """The value as a tuple, if it is a word of letters from 1 to many; else its error."""
    if not isinstance(value, (list, tuple)):
        raise BadWord(None)
    if len(value) > MOST_WORD:
        raise TooGreat(MOST_WORD)
    for place, item in enumerate(value):
        if not is_letter(item, many):
            raise BadWord(place)
    return tuple(value)
