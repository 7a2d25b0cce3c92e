"""Deeds: letters are put in and taken out, stretches are turned, and each deed is taken back."""

from bondwords.bonds import MOST_WORD, is_letter, is_whole
from bondwords.errors import BadDeed, TooGreat
from bondwords.named import name_of
from bondwords.words import as_word

# How many integers stand behind the name of each deed.
NUMBERS = {"in": 2, "out": 1, "turn": 1}


def has_form(value):
    """Whether a value is a tuple of the name of a deed and as many integers as it has."""
    name = name_of(value)
    if name not in NUMBERS or NUMBERS[name] != len(value) - 1:
        return False
    return all([is_whole(number) for number in value[1:]])


def by_turns(one, other, many):
    """So many letters of two that stand by turns, the one first."""
    return ((one, other) * many)[:many]


def can_go_out(letters, at):
    """Whether two equal letters stand at the place and behind it."""
    return 0 <= at < len(letters) - 1 and letters[at] == letters[at + 1]


def can_turn(bonds, letters, at):
    """Whether two letters stand by turns from the place on, as many letters as their bond."""
    if not 0 <= at < len(letters) - 1:
        return False
    one, other = letters[at], letters[at + 1]
    bond = bonds.bond(one, other)
    # It is 1 for a letter with itself, and 0 for no bond: neither can be turned.
    return bond > 1 and letters[at:at + bond] == by_turns(one, other, bond)


def fits(bonds, letters, value):
    """Whether a value is a deed that can be done, but for the number of letters that come of it."""
    if not has_form(value):
        return False
    name, at = value[0], value[1]
    if name == "in":
        return 0 <= at <= len(letters) and is_letter(value[2], len(bonds))
    if name == "out":
        return can_go_out(letters, at)
    return can_turn(bonds, letters, at)


def is_too_long(letters, deed):
    """Whether more letters come of a deed that fits than a word may have."""
    return deed[0] == "in" and len(letters) + 2 > MOST_WORD


def changed(bonds, letters, deed):
    """What comes of letters by a deed that can be done."""
    name, at = deed[0], deed[1]
    if name == "in":
        return letters[:at] + (deed[2], deed[2]) + letters[at:]
    if name == "out":
        return letters[:at] + letters[at + 2:]
    one, other = letters[at], letters[at + 1]
    bond = bonds.bond(one, other)
    return letters[:at] + by_turns(other, one, bond) + letters[at + bond:]


def taken_back(letters, deed):
    """The deed that leads back to the letters behind a deed that can be done on them."""
    name, at = deed[0], deed[1]
    if name == "in":
        return ("out", at)
    if name == "out":
        return ("in", at, letters[at])
    return ("turn", at)


def check_deed(bonds, letters, value, place):
    """Refuses a value that is no deed that can be done; place is its number."""
    if not fits(bonds, letters, value):
        raise BadDeed(place)
    if is_too_long(letters, value):
        raise TooGreat(MOST_WORD)


def walk(bonds, word, deeds):
    """What comes of a word by deeds, and a list of the deeds that take each of them back."""
    letters = as_word(word, len(bonds))
    if not isinstance(deeds, (list, tuple)):
        raise BadDeed(None)
    backs = []
    for place, deed in enumerate(deeds):
        check_deed(bonds, letters, deed, place)
        backs.append(taken_back(letters, deed))
        letters = changed(bonds, letters, deed)
    return letters, backs


def can(bonds, word, deed):
    """Whether any value is a deed that can be done on the word."""
    letters = as_word(word, len(bonds))
    return fits(bonds, letters, deed) and not is_too_long(letters, deed)


def done(bonds, word, deed):
    """The word that comes of a deed."""
    return walk(bonds, word, (deed,))[0]


def walked(bonds, word, deeds):
    """The word that comes of a list or tuple of deeds, one after another."""
    return walk(bonds, word, deeds)[0]


def deeds_of(bonds, word):
    """An ascending tuple of all deeds that can be done on the word."""
    letters = as_word(word, len(bonds))
    many = len(letters)
    found = [("in", at, letter) for at in range(many + 1) for letter in range(1, len(bonds) + 1)]
    found += [("out", at) for at in range(many) if can_go_out(letters, at)]
    found += [("turn", at) for at in range(many) if can_turn(bonds, letters, at)]
    return tuple([deed for deed in found if not is_too_long(letters, deed)])


def back(bonds, word, deed):
    """The deed that leads back from what comes of a deed."""
    return walk(bonds, word, (deed,))[1][0]


def returned(bonds, word, deeds):
    """A tuple of the deeds that lead back from what comes of deeds, the last deed's first."""
    return tuple(walk(bonds, word, deeds)[1][::-1])
