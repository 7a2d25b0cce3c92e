"""Choices of letters, and the parts of words by them."""

from bondwords.bonds import is_letter
from bondwords.errors import BadChoice
from bondwords.rows import fallen, firsts, lasts, pressed, row_behind, word_of
from bondwords.shortest import least_word
from bondwords.words import as_word, fewer_first


def is_choice(bonds, value):
    """Whether any value is a choice of letters of the bonds."""
    if not isinstance(value, tuple) or not all([is_letter(item, len(bonds)) for item in value]):
        return False
    return all([one < other for one, other in zip(value, value[1:])])


def check_choice(bonds, value):
    """Refuses a value that is no choice."""
    if not is_choice(bonds, value):
        raise BadChoice(value)


def choices_of(bonds):
    """A tuple of all choices, those with fewer letters first, else ascending."""
    choices = [()]
    for letter in range(1, len(bonds) + 1):
        choices = choices + [(*choice, letter) for choice in choices]
    return tuple(fewer_first(choices))


def fallen_within(row, choice):
    """A list of the letters of a choice whose numbers are below 0."""
    return [letter for letter in fallen(row) if letter in choice]


def without_end(bonds, letters, choice):
    """The least front ahead of a choice, and letters within it: the front and they are alike to the word."""
    row = row_behind(bonds, letters)
    rest = ()
    low = fallen_within(row, choice)
    while low:
        row = pressed(bonds, row, low[0])
        rest = (low[0], *rest)
        low = fallen_within(row, choice)
    return word_of(bonds, row), rest


def is_ahead(bonds, word, choice):
    """Whether no shortest word that is alike ends with a letter of the choice."""
    ends = lasts(bonds, word)
    check_choice(bonds, choice)
    return not any([letter in choice for letter in ends])


def is_behind(bonds, word, choice):
    """Whether no shortest word that is alike begins with a letter of the choice."""
    begins = firsts(bonds, word)
    check_choice(bonds, choice)
    return not any([letter in choice for letter in begins])


def is_within(bonds, word, choice):
    """Whether the shortest words that are alike have letters of the choice alone."""
    letters = least_word(bonds, word)
    check_choice(bonds, choice)
    return all([letter in choice for letter in letters])


def parted(bonds, word, choice):
    """A pair: the front ahead of a choice, and the rest within it."""
    letters = as_word(word, len(bonds))
    check_choice(bonds, choice)
    front, rest = without_end(bonds, letters, choice)
    return front, least_word(bonds, rest)


def parted_ahead(bonds, word, choice):
    """A pair: the rest within a choice, and the front behind it."""
    letters = as_word(word, len(bonds))
    check_choice(bonds, choice)
    # The same as for parted, with the word gone the other way.
    front, rest = without_end(bonds, letters[::-1], choice)
    return least_word(bonds, rest[::-1]), least_word(bonds, front[::-1])


def least_between(bonds, left, word, right):
    """The least shortest word of what any words within left ahead of a word, and within right behind, can give."""
    letters = as_word(word, len(bonds))
    check_choice(bonds, left)
    check_choice(bonds, right)
    front = without_end(bonds, letters, right)[0]
    # What is left is the end of a shortest word of the front, so that it stays ahead of right.
    return parted_ahead(bonds, front, left)[1]
