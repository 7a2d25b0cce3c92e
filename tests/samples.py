"""Tables of bonds, what is no word, and a search by deeds that knows nothing of rows."""

from itertools import permutations, product

from bondwords.bonds import Bonds

GREAT = 10 ** 999
BONDS = (2, 3, 4, 6, 0)
# w(a, b) and w(b, a) for a < b, copied from point [12].
WEIGHTS = {2: (0, 0), 3: (1, 1), 4: (1, 2), 6: (1, 3), 0: (2, 2)}


def table(many, **bonds):
    """A table with the bonds that are named, b12=3 for the bond of 1 and 2; the others are 2."""
    rows = [[1 if one == other else 2 for other in range(many)] for one in range(many)]
    for name, bond in bonds.items():
        one, other = int(name[1]) - 1, int(name[2]) - 1
        rows[one][other] = rows[other][one] = bond
    return tuple(tuple(row) for row in rows)


ONE = table(1)
PAIRS = {bond: table(2, b12=bond) for bond in BONDS}
SIX = table(6, b12=3, b13=4, b14=6, b15=0, b23=0, b26=3, b34=6, b45=4, b56=3)
TRIPLES = (
    table(3),
    table(3, b12=3),
    table(3, b12=3, b23=3),
    table(3, b12=3, b23=4),
    table(3, b12=4, b23=3),
    table(3, b13=3, b12=6),
    table(3, b12=3, b23=3, b13=3),
    table(3, b12=4, b23=4),
    table(3, b12=0, b23=3),
    table(3, b12=0, b23=0, b13=0),
    table(3, b12=6, b23=4, b13=3),
)

# What is no word of three letters, with the place that its error tells.
NO_WORDS = (
    (None, None), (0, None), (1, None), ("", None), ("12", None), (b"1", None), ({}, None), ({1}, None),
    (range(1, 2), None), (iter([1]), None), (True, None), (Bonds(ONE), None),
    ([0], 0), ((4,), 0), ([True], 0), ([1, False], 1), ([1, 2, None], 2), (["1", 1], 0), ([1, (1,), 2], 1),
    ([1, 1, [1]], 2), ([-1], 0), ([GREAT], 0), ([1, 2, 3, 4, 0], 3), ([1] * 59 + [4], 59), ([4] * 60, 0),
    ([1] * 30 + [0] + [9] * 29, 30), ([1.0], 0),
)
TOO_LONG = ([1] * 61, (2,) * 61, [1] * 60 + [9], [None] * 61, ("x",) * 1000)


def words(many, most):
    """All words of at most so many letters."""
    for length in range(most + 1):
        yield from product(range(1, many + 1), repeat=length)


def told_shrinking(rows, word):
    """Each turn and each deed that takes out, as point [13] tells them, with what comes of it."""
    told = {}
    for at in range(len(word) - 1):
        if word[at] == word[at + 1]:
            told["out", at] = word[:at] + word[at + 2:]
    for one, other in permutations(range(1, len(rows) + 1), 2):
        bond = rows[one - 1][other - 1]
        for at in range(len(word) - bond + 1):
            if bond and word[at:at + bond] == ((one, other) * 3)[:bond]:
                told["turn", at] = word[:at] + ((other, one) * 3)[:bond] + word[at + bond:]
    return told


def told_deeds(rows, word):
    """Each deed that can be done, as point [13] tells it, with what comes of it."""
    told = told_shrinking(rows, word)
    if len(word) + 2 <= 60:
        for at in range(len(word) + 1):
            for letter in range(1, len(rows) + 1):
                told["in", at, letter] = word[:at] + (letter, letter) + word[at:]
    return told


def shortest_alike(rows, word):
    """All shortest words that are alike to the word: by points [23] and [24] this reaches them."""
    reached = {tuple(word)}
    fresh = [tuple(word)]
    while fresh:
        for found in told_shrinking(rows, fresh.pop()).values():
            if found not in reached:
                reached.add(found)
                fresh.append(found)
    least = min(len(found) for found in reached)
    return sorted(found for found in reached if len(found) == least)


def led_to_each_other(rows, most):
    """The lists of words of at most so many letters that deeds lead to each other, through no longer ones."""
    lists = []
    reached = set()
    for start in words(len(rows), most):
        if start not in reached:
            found = [start]
            reached.add(start)
            for word in found:
                fresh = [behind for behind in told_deeds(rows, word).values() if len(behind) <= most]
                found += sorted(set(fresh) - reached)
                reached.update(fresh)
            lists.append(found)
    return lists


def some_word(many, length, seed):
    """A word of so many letters that looks like one by chance."""
    word = ()
    state = seed * 7919 + 1
    for at in range(length):
        state = (state * 1103515245 + 12345) % 2 ** 31
        word += (state // 65536 % many + 1,)
    return word
