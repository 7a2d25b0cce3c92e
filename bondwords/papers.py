"""Papers: what shows that two words are alike, or that they are not."""

from bondwords.bonds import is_letter, is_whole
from bondwords.deeds import returned, walked
from bondwords.errors import BadDeed, TooGreat
from bondwords.named import name_of
from bondwords.rows import row_of
from bondwords.shortest import check_led, to_shortest, turns_between
from bondwords.words import as_word


def deeds_between(bonds, one, other):
    """A tuple of deeds that leads from a word to one that is alike."""
    if one == other:
        return ()
    down = to_shortest(bonds, one)
    other_down = to_shortest(bonds, other)
    across = turns_between(bonds, walked(bonds, one, down), walked(bonds, other, other_down))
    return down + across + returned(bonds, other, other_down)


def deeds_lead(bonds, one, other, deeds):
    """Whether a value is a tuple of deeds that lead from the one word to the other."""
    if not isinstance(deeds, tuple):
        return False
    try:
        end = walked(bonds, one, deeds)
    except (BadDeed, TooGreat):
        return False
    return end == other


def letter_parts(bonds, one, other, letter, numbers):
    """Whether a value is a letter with two numbers, its different ones in the rows of the words."""
    if not is_letter(letter, len(bonds)) or not all([is_whole(number) for number in numbers]):
        return False
    number = row_of(bonds, one)[letter - 1]
    other_number = row_of(bonds, other)[letter - 1]
    return number != other_number and numbers == (number, other_number)


def paper(bonds, one, other):
    """A paper on two words; of words that are not alike that with the first letter."""
    row = row_of(bonds, one)
    other_row = row_of(bonds, other)
    for at, number in enumerate(row):
        if number != other_row[at]:
            return ("letter", at + 1, number, other_row[at])
    check_led(one)
    check_led(other)
    return ("deeds", deeds_between(bonds, tuple(one), tuple(other)))


def is_paper(bonds, one, other, value):
    """Whether any value is a paper on two words."""
    letters = as_word(one, len(bonds))
    other_letters = as_word(other, len(bonds))
    name = name_of(value)
    if name == "deeds":
        return len(value) == 2 and deeds_lead(bonds, letters, other_letters, value[1])
    if name == "letter":
        return len(value) == 4 and letter_parts(bonds, letters, other_letters, value[1], value[2:])
    return False
