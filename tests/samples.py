"""Tables of bonds, words, what is no word and no choice, and a search by deeds that knows nothing of rows."""

from functools import lru_cache
from itertools import permutations, product

from bondwords.bonds import Bonds
from bondwords.rows import lasts

GREAT = 10 ** 999
BONDS = (2, 3, 4, 6, 0)
# w(a, b) and w(b, a) for a < b, copied from point [12].
WEIGHTS = {2: (0, 0), 3: (1, 1), 4: (1, 2), 6: (1, 3), 0: (2, 2)}


def table(many, **bonds):
    """A table with the bonds that are named, b12=3 for the bond of 1 and 2; the others are 2."""
    rows = [[1 if one == other else 2 for other in range(many)] for one in range(many)]
    for name, bond in bonds.items():
        one, other = int(name[1]) - 1, int(name[2]) - 1
        rows[one][other] = rows[other][one] = bond
    return tuple(tuple(row) for row in rows)


ONE = table(1)
PAIRS = {bond: table(2, b12=bond) for bond in BONDS}
SIX = table(6, b12=3, b13=4, b14=6, b15=0, b23=0, b26=3, b34=6, b45=4, b56=3)
TRIPLES = (
    table(3),
    table(3, b12=3),
    table(3, b12=3, b23=3),
    table(3, b12=3, b23=4),
    table(3, b12=4, b23=3),
    table(3, b13=3, b12=6),
    table(3, b12=3, b23=3, b13=3),
    table(3, b12=4, b23=4),
    table(3, b12=0, b23=3),
    table(3, b12=0, b23=0, b13=0),
    table(3, b12=6, b23=4, b13=3),
)
PATH_OF_SIX = table(6, b12=3, b23=3, b34=3, b45=3, b56=3)
# Bonds of many kinds that have shortest words of 16 letters.
LARGE = (
    PATH_OF_SIX, SIX, PAIRS[0], TRIPLES[6], TRIPLES[7], TRIPLES[10],
    table(6, b12=3, b23=3, b34=3, b45=3, b56=3, b16=3), table(6, b12=3, b23=3, b34=3, b45=3, b56=4),
    table(6, b13=3, b34=3, b24=3, b45=3, b56=3), table(5, b12=3, b23=3, b34=3, b35=3),
    table(4, b12=3, b23=4, b34=3), table(3, b12=6, b23=6, b13=6), table(3, b12=6, b23=3), table(6, b12=6, b34=6, b56=6),
)
# Bonds that are known to be finite, with the letters of their longest word and the number of words, no two alike.
FINITE = (
    (ONE, 1, 2), (PAIRS[2], 2, 4), (PAIRS[3], 3, 6), (PAIRS[4], 4, 8), (PAIRS[6], 6, 12),
    (TRIPLES[0], 3, 8), (TRIPLES[1], 4, 12), (TRIPLES[2], 6, 24), (TRIPLES[3], 9, 48), (TRIPLES[4], 9, 48),
    (table(3, b13=6), 7, 24),
    (table(4, b12=3, b23=3, b34=3), 10, 120), (table(4, b12=3, b23=3, b34=4), 16, 384),
    (table(4, b12=4, b23=3, b34=3), 16, 384), (table(4, b13=3, b23=3, b34=3), 12, 192),
    (table(4, b12=3, b23=4, b34=3), 24, 1152), (table(4, b12=6, b34=6), 12, 144), (table(4, b13=4, b24=6), 10, 96),
    (table(5, b12=3, b23=3, b34=3, b45=3), 15, 720), (table(5, b12=3, b23=3, b34=3, b45=4), 25, 3840),
    (table(5, b12=3, b23=3, b34=3, b35=3), 20, 1920), (table(5, b12=3, b34=3, b45=4), 12, 288),
    (table(6), 6, 64), (PATH_OF_SIX, 21, 5040), (table(6, b12=3, b23=3, b34=3, b45=3, b56=4), 36, 46080),
    (table(6, b12=4, b23=3, b34=3, b45=3, b56=3), 36, 46080), (table(6, b12=3, b23=3, b34=3, b45=3, b46=3), 30, 23040),
    (table(6, b13=3, b34=3, b24=3, b45=3, b56=3), 36, 51840), (table(6, b12=3, b23=4, b34=3, b56=6), 30, 13824),
    (table(6, b12=3, b23=3, b45=3, b56=3), 12, 576), (table(6, b14=6, b25=6, b36=6), 18, 1728),
    (table(6, b12=3, b23=4, b45=4, b56=3), 18, 2304), (table(6, b62=4, b24=3, b41=3, b35=3), 19, 2304),
)
# Bonds that are known to be endless.
ENDLESS = (
    PAIRS[0], TRIPLES[5], *TRIPLES[6:], table(3, b12=6, b23=3), table(3, b12=4, b23=6), table(3, b13=0),
    table(4, b12=3, b23=3, b34=3, b14=3), table(4, b12=4, b23=3, b34=4), table(4, b12=3, b23=3, b24=4),
    table(4, b12=3, b23=3, b34=6), table(4, b14=0), table(4, b12=4, b34=0), table(4, b12=3, b23=4, b34=4),
    table(5, b12=3, b23=3, b34=3, b45=3, b15=3), table(5, b12=3, b23=3, b34=4, b45=3),
    table(5, b13=3, b23=3, b34=3, b35=3), table(5, b12=4, b23=3, b34=3, b45=4), table(5, b12=3, b13=3, b23=3, b45=3),
    table(5, b12=3, b23=3, b34=4, b35=3), table(6, b12=3, b23=3, b34=3, b45=3, b56=3, b16=3),
    table(6, b12=3, b23=3, b34=3, b45=3, b56=6), table(6, b12=4, b23=3, b34=3, b45=3, b56=4),
    table(6, b12=3, b23=4, b34=3, b45=3, b56=3), table(6, b13=3, b23=3, b34=3, b45=3, b46=3),
    table(6, b12=0, b34=0, b56=0), table(6, b12=6, b34=6, b56=0), SIX,
)

# What is no word of three letters, with the place that its error tells.
NO_WORDS = (
    (None, None), (0, None), (1, None), ("", None), ("12", None), (b"1", None), ({}, None), ({1}, None),
    (range(1, 2), None), (iter([1]), None), (True, None), (Bonds(ONE), None),
    ([0], 0), ((4,), 0), ([True], 0), ([1, False], 1), ([1, 2, None], 2), (["1", 1], 0), ([1, (1,), 2], 1),
    ([1, 1, [1]], 2), ([-1], 0), ([GREAT], 0), ([1, 2, 3, 4, 0], 3), ([1] * 59 + [4], 59), ([4] * 60, 0),
    ([1] * 30 + [0] + [9] * 29, 30), ([1.0], 0),
)
TOO_LONG = ([1] * 61, (2,) * 61, [1] * 60 + [9], [None] * 61, ("x",) * 1000)
# What is no choice of three letters.
NO_CHOICES = (
    None, 0, 1, True, "", "1", b"1", [], [1], [1, 2], {}, {1}, range(1, 3), iter(()), ((),), ((1,),), ([1],),
    (0,), (4,), (-1,), (GREAT,), (1, 1), (2, 1), (1, 3, 2), (1, 2, 2), (1, 2, 3, 4), (1, 2, 3, 3), (True,), (True, 2),
    (False,), (None,), ("1",), (1, None), (1, "2"), (1.0,), (0, 1), (1, 2, True), Bonds(ONE),
)


def words(many, most):
    """All words of at most so many letters."""
    for length in range(most + 1):
        yield from product(range(1, many + 1), repeat=length)


def told_shrinking(rows, word):
    """Each turn and each deed that takes out, as point [13] tells them, with what comes of it."""
    told = {}
    for at in range(len(word) - 1):
        if word[at] == word[at + 1]:
            told["out", at] = word[:at] + word[at + 2:]
    for one, other in permutations(range(1, len(rows) + 1), 2):
        bond = rows[one - 1][other - 1]
        for at in range(len(word) - bond + 1):
            if bond and word[at:at + bond] == ((one, other) * 3)[:bond]:
                told["turn", at] = word[:at] + ((other, one) * 3)[:bond] + word[at + bond:]
    return told


def told_deeds(rows, word):
    """Each deed that can be done, as point [13] tells it, with what comes of it."""
    told = told_shrinking(rows, word)
    if len(word) + 2 <= 60:
        for at in range(len(word) + 1):
            for letter in range(1, len(rows) + 1):
                told["in", at, letter] = word[:at] + (letter, letter) + word[at:]
    return told


def shortest_alike(rows, word):
    """All shortest words that are alike to the word: by points [23] and [24] this reaches them."""
    reached = {tuple(word)}
    fresh = [tuple(word)]
    while fresh:
        for found in told_shrinking(rows, fresh.pop()).values():
            if found not in reached:
                reached.add(found)
                fresh.append(found)
    least = min(len(found) for found in reached)
    return sorted(found for found in reached if len(found) == least)


def led_to_each_other(rows, most):
    """The lists of words of at most so many letters that deeds lead to each other, through no longer ones."""
    lists = []
    reached = set()
    for start in words(len(rows), most):
        if start not in reached:
            found = [start]
            reached.add(start)
            for word in found:
                fresh = [behind for behind in told_deeds(rows, word).values() if len(behind) <= most]
                found += sorted(set(fresh) - reached)
                reached.update(fresh)
            lists.append(found)
    return lists


def some_word(many, length, seed):
    """A word of so many letters that looks like one by chance."""
    word = ()
    state = seed * 7919 + 1
    for at in range(length):
        state = (state * 1103515245 + 12345) % 2 ** 31
        word += (state // 65536 % many + 1,)
    return word


def shortest_word(bonds, many, seed):
    """A shortest word of so many letters, which there must be."""
    word = ()
    while len(word) < many:
        higher = sorted(set(range(1, len(bonds) + 1)) - set(lasts(bonds, word)))
        word += (higher[(seed * 7 + len(word) * seed + len(word) // 3) % len(higher)],)
    return word


@lru_cache(maxsize=None)
def least_alike(rows, word):
    """The first one of all shortest words that are alike to the word, found by deeds alone."""
    return shortest_alike(rows, word)[0]
