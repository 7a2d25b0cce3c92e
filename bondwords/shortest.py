"""Shortest words: what they are, and the deeds that lead to them and between them."""

from bondwords.deeds import by_turns, changed
from bondwords.errors import TooGreat, Unlike
from bondwords.rows import alike, fallen, length, row_behind, row_of, word_of
from bondwords.words import as_word

MOST_LED = 16


def check_led(letters):
    """Refuses a word of more letters than are led anywhere."""
    if len(letters) > MOST_LED:
        raise TooGreat(MOST_LED)


def brought_last(bonds, letters, last):
    """The letters, turned so that they end with the letter last, and a tuple of these turns.

    The letters are a shortest word, and some shortest word that is alike ends with that letter.
    """
    own = letters[-1]
    if own == last:
        return letters, ()
    # Both letters can stand last. So, by [26] gone the other way, both can stand there by turns,
    # as many letters as their bond: they are brought there one by one, from the end on.
    bond = bonds.bond(own, last)
    now = letters
    turns = ()
    for place, letter in enumerate(by_turns(own, last, bond)):
        many = len(letters) - place
        head, more = brought_last(bonds, now[:many], letter)
        now = head + now[many:]
        turns += more
    turn = ("turn", len(letters) - bond)
    return changed(bonds, now, turn), (*turns, turn)


def is_shortest(bonds, word):
    """Whether a word is shortest."""
    return length(bonds, word) == len(word)


def least_word(bonds, word):
    """The first one, in ascending order, of the shortest words that are alike."""
    return word_of(bonds, row_of(bonds, word))


def to_shortest(bonds, word):
    """A tuple of turns and deeds that take out, which leads to a shortest word."""
    letters = as_word(word, len(bonds))
    check_led(letters)
    deeds = ()
    # The front is always a shortest word, so that its places are those of the whole word.
    front = ()
    for letter in letters:
        if letter in fallen(row_behind(bonds, front)):
            front, turns = brought_last(bonds, front, letter)
            front = front[:-1]
            deeds += (*turns, ("out", len(front)))
        else:
            front += (letter,)
    return deeds


def turns_between(bonds, one, other):
    """A tuple of turns that leads from the one to the other."""
    now = as_word(one, len(bonds))
    end = as_word(other, len(bonds))
    check_led(now)
    check_led(end)
    if not alike(bonds, now, end) or not is_shortest(bonds, now) or not is_shortest(bonds, end):
        raise Unlike()
    turns = ()
    for many in range(len(end), 0, -1):
        # What stands behind the first many letters is as it must be.
        now, more = brought_last(bonds, now[:many], end[many - 1])
        turns += more
    return turns
