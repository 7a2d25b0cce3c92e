"""Bonds of letters, and what counts as a letter."""

from bondwords.errors import BadBonds, BadNumber, TooGreat

MOST_LETTERS = 6
MOST_WORD = 60

# For each bond of two letters a < b: w(a, b) and w(b, a).
WEIGHTS = {2: (0, 0), 3: (1, 1), 4: (1, 2), 6: (1, 3), 0: (2, 2)}
OWN_BOND = 1
OWN_WEIGHT = -2


def is_whole(value):
    """Whether a value is an integer; True and False are none."""
    return isinstance(value, int) and not isinstance(value, bool)


def is_letter(value, many):
    """Whether a value is one of the letters from 1 to many."""
    return is_whole(value) and 1 <= value <= many


def check_letters(many, one, other):
    """Refuses the first of two values that is no letter."""
    for value in (one, other):
        if not is_letter(value, many):
            raise BadNumber(value)


def can_stand(rows, one, other):
    """Whether the item in the row of one fits, if all earlier items do."""
    item = rows[one - 1][other - 1]
    if not is_whole(item):
        return False
    if one == other:
        return item == OWN_BOND
    if one < other:
        return item in WEIGHTS
    return item == rows[other - 1][one - 1]


def check_shape(rows):
    """Refuses what has not as many rows as each row has items."""
    if not isinstance(rows, (list, tuple)) or len(rows) == 0:
        raise BadBonds(None)
    if len(rows) > MOST_LETTERS:
        raise TooGreat(MOST_LETTERS)
    for row in rows:
        if not isinstance(row, (list, tuple)) or len(row) != len(rows):
            raise BadBonds(None)


def check_table(rows):
    """Refuses what is no table of bonds."""
    check_shape(rows)
    letters = list(range(1, len(rows) + 1))
    for one in letters:
        for other in letters:
            if not can_stand(rows, one, other):
                raise BadBonds((one, other))


def weight_of(table, one, other):
    """The weight of two letters of a table, or of a letter with itself."""
    if one == other:
        return OWN_WEIGHT
    upward, downward = WEIGHTS[table[one - 1][other - 1]]
    return upward if one < other else downward


def weights_from(table, one):
    """The weights of a letter with each letter, itself included."""
    return tuple([weight_of(table, one, other) for other in range(1, len(table) + 1)])


class Bonds:
    """The bonds of letters; weights is laid out as table is."""

    def __init__(self, rows):
        check_table(rows)
        self.table = tuple([tuple(row) for row in rows])
        # Rows are pressed often: the weights are looked up once, here.
        self.weights = tuple([weights_from(self.table, one) for one in range(1, len(rows) + 1)])

    def __len__(self):
        return len(self.table)

    def __eq__(self, other):
        return isinstance(other, Bonds) and self.table == other.table

    def bond(self, one, other):
        """The bond of two letters, 1 of a letter with itself."""
        check_letters(len(self.table), one, other)
        return self.table[one - 1][other - 1]

    def weight(self, one, other):
        """The weight of two letters, -2 of a letter with itself."""
        check_letters(len(self.table), one, other)
        return self.weights[one - 1][other - 1]
