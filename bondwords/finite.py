"""Finite and endless bonds, what shows which they are, the longest word, and letters that hang together."""

from bondwords.bonds import MOST_WORD, is_whole
from bondwords.choices import check_choice, choices_of, is_choice
from bondwords.errors import Endless
from bondwords.named import name_of
from bondwords.rows import first_row, pressed, row_behind, word_of

# Two letters with this bond do not hang together.
LOOSE = 2


def all_letters(bonds):
    """The choice of all letters."""
    return tuple(range(1, len(bonds) + 1))


def longest_within(bonds, choice):
    """The letters of a longest word within a choice; None if there are ever longer ones."""
    row = first_row(bonds)
    letters = ()
    # A longest word is a word: if MOST_WORD letters were not enough, there is none.
    while len(letters) <= MOST_WORD:
        high = [letter for letter in choice if row[letter - 1] > 0]
        if not high:
            return letters
        row = pressed(bonds, row, high[0])
        letters += (high[0],)
    return None


def strain_rows(bonds, choice):
    """For each letter of a choice, by how much each number of a measure adds to its strain."""
    return [[-bonds.weight(other, letter) for other in choice] for letter in choice]


def strains(bonds, choice, measure):
    """A list of the strains of the letters of a choice under a measure."""
    rows = strain_rows(bonds, choice)
    return [sum([part * number for part, number in zip(row, measure)]) for row in rows]


def cofactors(rows):
    """A list of the determinants of a square without its first row and each column, with changing signs."""
    found = []
    sign = 1
    for column in range(len(rows)):
        rest = [row[:column] + row[column + 1:] for row in rows[1:]]
        found.append(sign * determinant(rest))
        sign = -sign
    return found


def determinant(rows):
    """The determinant of a square of integers."""
    if len(rows) == 0:
        return 1
    return sum([number * cofactor for number, cofactor in zip(rows[0], cofactors(rows))])


def finite_measure(bonds, letters):
    """A measure under which all strains are 2, the letters being those of the longest word."""
    # What pressing a letter takes from the row is what its number there, added to its number in the measure,
    # adds to the strains. From 1, 1, .., 1 to -1, -1, .., -1 each number of the row becomes less by 2.
    row = first_row(bonds)
    measure = [0] * len(bonds)
    for letter in letters:
        measure[letter - 1] += row[letter - 1]
        row = pressed(bonds, row, letter)
    return tuple(measure)


def endless_measure(bonds, choice):
    """A measure of a choice under which no strain is above 0.

    Words within the choice are endless; without any one of its letters they are not.
    """
    # With the cofactors as numbers, the first strain is the determinant, which is above 0 for finite ones
    # only; each other strain is the determinant of a square with two rows alike, 0. The cofactors are above
    # 0 because the choice hangs together, and words without its first letter are finite.
    return tuple(cofactors(strain_rows(bonds, choice)))


def is_measure(choice, value):
    """Whether any value is a measure of a choice."""
    if not isinstance(value, tuple) or len(value) != len(choice):
        return False
    return all([is_whole(number) and number > 0 for number in value])


def shows_finite(bonds, measure):
    """Whether any value is a measure of all letters under which all strains are above 0."""
    letters = all_letters(bonds)
    if not is_measure(letters, measure):
        return False
    return all([strain > 0 for strain in strains(bonds, letters, measure)])


def shows_endless(bonds, choice, measure):
    """Whether two values are a choice that hangs together and its measure under which no strain is above 0."""
    if not is_choice(bonds, choice) or not hangs_together(bonds, choice) or not is_measure(choice, measure):
        return False
    return all([strain <= 0 for strain in strains(bonds, choice, measure)])


def piece_around(bonds, choice, letter):
    """The choice of the letters to which one comes from a letter by letters of a choice."""
    piece = []
    fresh = [letter]
    while fresh:
        piece = piece + fresh
        others = [other for other in choice if other not in piece]
        fresh = [other for other in others if any([bonds.bond(other, one) != LOOSE for one in piece])]
    return tuple(sorted(piece))


def is_finite(bonds):
    """Whether there are finitely many words of which no two are alike."""
    return longest_within(bonds, all_letters(bonds)) is not None


def witness(bonds):
    """A witness about the bonds."""
    for choice in choices_of(bonds):
        # Choices with fewer letters came first: without any one letter, this one has a longest word.
        if longest_within(bonds, choice) is None:
            return ("endless", choice, endless_measure(bonds, choice))
    return ("finite", finite_measure(bonds, longest(bonds)))


def is_witness(bonds, value):
    """Whether any value is a witness about the bonds."""
    name = name_of(value)
    if name == "finite":
        return len(value) == 2 and shows_finite(bonds, value[1])
    if name == "endless":
        return len(value) == 3 and shows_endless(bonds, value[1], value[2])
    return False


def longest(bonds):
    """The least one of the shortest words of the longest word."""
    letters = longest_within(bonds, all_letters(bonds))
    if letters is None:
        raise Endless()
    return word_of(bonds, row_behind(bonds, letters))


def hangs_together(bonds, choice):
    """Whether a choice has a letter, and one comes from it to each other one by bonds other than 2."""
    check_choice(bonds, choice)
    return len(choice) > 0 and piece_around(bonds, choice, choice[0]) == choice


def pieces(bonds):
    """An ascending tuple of the greatest choices that hang together."""
    letters = all_letters(bonds)
    return tuple(sorted({piece_around(bonds, letters, letter) for letter in letters}))
