"""Lists of shortest words: how many are alike to a word, and each one by its number."""

from bondwords.bonds import is_whole
from bondwords.errors import BadNumber, Unlike
from bondwords.rows import fallen, pressed, row_behind
from bondwords.shortest import check_led, is_shortest
from bondwords.words import as_word


def row_to_spell(bonds, word):
    """The row of a word gone the other way: its fallen letters are those that shortest words begin with."""
    letters = as_word(word, len(bonds))
    check_led(letters)
    return row_behind(bonds, letters[::-1])


def counted(bonds, row, known):
    """How many shortest words have a row; known gathers what was counted, because many ways meet in one row."""
    if row not in known:
        low = fallen(row)
        # Only the row of the empty word has no fallen letter.
        parts = [counted(bonds, pressed(bonds, row, letter), known) for letter in low]
        known[row] = sum(parts) if low else 1
    return known[row]


def count_shortest(bonds, word):
    """How many shortest words are alike to the word."""
    return counted(bonds, row_to_spell(bonds, word), {})


def shortest_words(bonds, word):
    """A generator of the shortest words that are alike to the word, ascending."""
    # Fronts of words, each with the row of what is left to spell; the least front stands at the end.
    waiting = [((), row_to_spell(bonds, word))]
    while waiting:
        front, row = waiting.pop()
        low = fallen(row)
        if not low:
            yield front
        for letter in reversed(low):
            waiting.append(((*front, letter), pressed(bonds, row, letter)))


def word_at(bonds, word, number):
    """The shortest word with this number, from 0, of those that are alike to the word."""
    row = row_to_spell(bonds, word)
    known = {}
    if not is_whole(number) or not 0 <= number < counted(bonds, row, known):
        raise BadNumber(number)
    letters = ()
    # How many words that are left to spell come ahead of the one that is asked for.
    ahead = number
    while fallen(row):
        for letter in fallen(row):
            rest = pressed(bonds, row, letter)
            many = counted(bonds, rest, known)
            if ahead < many:
                break
            ahead -= many
        letters += (letter,)
        row = rest
    return letters


def word_number(bonds, word):
    """The number of the word among the shortest words that are alike to it."""
    row = row_to_spell(bonds, word)
    if not is_shortest(bonds, word):
        raise Unlike()
    known = {}
    number = 0
    for letter in word:
        ahead = [pressed(bonds, row, less) for less in fallen(row) if less < letter]
        number += sum([counted(bonds, rest, known) for rest in ahead])
        row = pressed(bonds, row, letter)
    return number
