"""Tables of bonds, and a search by deeds that knows nothing of rows."""

from itertools import product

BONDS = (2, 3, 4, 6, 0)
# w(a, b) and w(b, a) for a < b, copied from point [12].
WEIGHTS = {2: (0, 0), 3: (1, 1), 4: (1, 2), 6: (1, 3), 0: (2, 2)}


def table(many, **bonds):
    """A table with the bonds that are named, b12=3 for the bond of 1 and 2; the others are 2."""
    rows = [[1 if one == other else 2 for other in range(many)] for one in range(many)]
    for name, bond in bonds.items():
        one, other = int(name[1]) - 1, int(name[2]) - 1
        rows[one][other] = rows[other][one] = bond
    return tuple(tuple(row) for row in rows)


ONE = table(1)
PAIRS = {bond: table(2, b12=bond) for bond in BONDS}
SIX = table(6, b12=3, b13=4, b14=6, b15=0, b23=0, b26=3, b34=6, b45=4, b56=3)
TRIPLES = (
    table(3),
    table(3, b12=3),
    table(3, b12=3, b23=3),
    table(3, b12=3, b23=4),
    table(3, b12=4, b23=3),
    table(3, b13=3, b12=6),
    table(3, b12=3, b23=3, b13=3),
    table(3, b12=4, b23=4),
    table(3, b12=0, b23=3),
    table(3, b12=0, b23=0, b13=0),
    table(3, b12=6, b23=4, b13=3),
)


def words(many, most):
    """All words of at most so many letters."""
    for length in range(most + 1):
        yield from product(range(1, many + 1), repeat=length)


def shorter_or_turned(rows, word):
    """What comes of the word by one deed that takes out, or one turn."""
    for at in range(len(word) - 1):
        one, other = word[at], word[at + 1]
        bond = rows[one - 1][other - 1]
        if one == other:
            yield word[:at] + word[at + 2:]
        elif bond and word[at:at + bond] == ((one, other) * 3)[:bond]:
            yield word[:at] + ((other, one) * 3)[:bond] + word[at + bond:]


def shortest_alike(rows, word):
    """All shortest words that are alike to the word: by points [23] and [24] this reaches them."""
    reached = {tuple(word)}
    fresh = [tuple(word)]
    while fresh:
        for found in shorter_or_turned(rows, fresh.pop()):
            if found not in reached:
                reached.add(found)
                fresh.append(found)
    least = min(len(found) for found in reached)
    return sorted(found for found in reached if len(found) == least)
