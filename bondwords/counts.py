"""How many words there are of which no two are alike, and which they are."""

from bondwords.bonds import MOST_WORD, is_whole
from bondwords.choices import choices_of
from bondwords.errors import BadNumber, Endless, TooGreat
from bondwords.finite import all_letters, is_finite, longest_within
from bondwords.rows import first_row, pressed, word_of

MOST_SPELLED = 12
MOST_WORDS = 2000


def check_number(value, most):
    """Refuses what is no integer from 0 to most."""
    if not is_whole(value) or not 0 <= value <= most:
        raise BadNumber(value)


def sign_of(many):
    """The power of -1."""
    return -1 if many & 1 else 1


def parts_of(choice, found):
    """A list of those of the choices found that have letters of a choice alone."""
    return [part for part in found if all([letter in choice for letter in part])]


def one_divided(choice, longest, found, many):
    """1 / C_J(t) for a choice J by point [55], as a list of the numbers of its powers of t, from 0 to many.

    Its longest word is None if there is none; found has the lists of all choices with fewer letters.
    """
    if len(choice) == 0:
        return [1] + [0] * many
    signs = [(part, -sign_of(len(choice) - len(part))) for part in parts_of(choice, found)]
    numbers = []
    for power in range(many + 1):
        number = sum([sign * found[part][power] for part, sign in signs])
        if longest is not None and power >= len(longest):
            number += sign_of(len(choice)) * numbers[power - len(longest)]
        numbers.append(number)
    return numbers


def inverse(numbers):
    """The numbers of the powers of t by which such ones, the first of them 1, give 1."""
    found = [1]
    for power in range(1, len(numbers)):
        found.append(-sum([numbers[power - lower] * found[lower] for lower in range(power)]))
    return found


def counts(bonds, many):
    """A tuple: how many words have shortest words of 0, 1, .., many letters."""
    check_number(many, MOST_WORD)
    found = {}
    for choice in choices_of(bonds):
        found[choice] = one_divided(choice, longest_within(bonds, choice), found, many)
    return tuple(inverse(found[all_letters(bonds)]))


def count_of(bonds, many):
    """How many words there are, no two alike, whose shortest words have so many letters."""
    return counts(bonds, many)[many]


def size(bonds):
    """How many words there are of which no two are alike."""
    if not is_finite(bonds):
        raise Endless()
    return sum(counts(bonds, MOST_WORD))


def words_of(bonds, many):
    """A generator of the least shortest words of all words whose shortest ones have so many letters, ascending."""
    check_number(many, MOST_SPELLED)
    if count_of(bonds, many) > MOST_WORDS:
        raise TooGreat(MOST_WORDS)
    letters = all_letters(bonds)
    rows = [first_row(bonds)]
    for step in range(many):
        # A letter whose number is above 0 makes the shortest words longer.
        rows = sorted({pressed(bonds, row, letter) for row in rows for letter in letters if row[letter - 1] > 0})
    found = sorted([word_of(bonds, row) for row in rows])
    yield from found
