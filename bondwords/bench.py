"""The bench: a word that deeds change, and that changes back."""

from bondwords.deeds import done, walk
from bondwords.errors import NothingLeft
from bondwords.rows import length
from bondwords.words import as_word


class Trial:
    """A stretch of work on a bench that is taken back when it ends."""

    def __init__(self, bench):
        self.bench = bench

    def __enter__(self):
        # The bench changes its own lists, so that copies are kept.
        self.now = self.bench.now
        self.standing = list(self.bench.standing)
        self.backs = list(self.bench.backs)
        self.undone = list(self.bench.undone)
        return self.bench

    def __exit__(self, kind, value, trace):
        self.bench.now = self.now
        self.bench.standing = self.standing
        self.bench.backs = self.backs
        self.bench.undone = self.undone


class Bench:
    """A word that deeds change; first is the word that it was at the beginning."""

    def __init__(self, bonds, word):
        self.first = as_word(word, len(bonds))
        self.bonds = bonds
        self.now = self.first
        # The deeds that stand, and for each of them the deed that takes it back.
        self.standing = []
        self.backs = []
        # The deeds that were taken back; the one that comes again first stands at the end.
        self.undone = []

    def __len__(self):
        return len(self.standing)

    def __eq__(self, other):
        return (
            isinstance(other, Bench) and self.bonds == other.bonds and self.first == other.first
            and self.standing == other.standing
        )

    @property
    def word(self):
        """The word as it is now."""
        return self.now

    def deeds(self):
        """A tuple of the deeds that stand."""
        return tuple(self.standing)

    def go_on(self, deeds):
        """Does deeds, all or none, and leaves what can be done again."""
        now, backs = walk(self.bonds, self.now, deeds)
        self.now = now
        self.backs.extend(backs)
        self.standing.extend(deeds)

    def do(self, deed):
        """Does a deed; returns the new word."""
        return self.do_all((deed,))

    def do_all(self, deeds):
        """Does the deeds of a list or tuple, all or none; returns the new word."""
        self.go_on(deeds)
        if len(deeds) > 0:
            self.undone = []
        return self.now

    def undo(self):
        """Takes back the last deed that stands; returns it."""
        if len(self.standing) == 0:
            raise NothingLeft()
        self.now = done(self.bonds, self.now, self.backs.pop())
        deed = self.standing.pop()
        self.undone.append(deed)
        return deed

    def redo(self):
        """Does the last deed again that was taken back; returns it."""
        if len(self.undone) == 0:
            raise NothingLeft()
        deed = self.undone.pop()
        self.go_on((deed,))
        return deed

    def needless(self):
        """How many letters the word has more than its shortest words."""
        return len(self.now) - length(self.bonds, self.now)

    def trial(self):
        """A stretch of work on this bench that is taken back when it ends, to be used behind the word with."""
        return Trial(self)


def tried(bench, function):
    """What a function returns for the bench, all that it does there being taken back."""
    with bench.trial() as same:
        return function(same)
