"""The bench: deeds that are done, taken back and done again, and trials."""

import unittest
from itertools import product

from bondwords.bench import Bench, tried
from bondwords.bonds import Bonds
from bondwords.deeds import deeds_of, done
from bondwords.errors import BadDeed, BadWord, NothingLeft, TooGreat
from bondwords.rows import length
from refusals import RefusalCase
from samples import GREAT, LARGE, ONE, PAIRS, SIX, TRIPLES, some_word, told_deeds

NO_DEEDS = (
    None, 0, True, "in", b"out", (), [], {}, ("in",), ("in", 0), ("in", 0, 3), ("in", 4, 1), ("in", -1, 1),
    ("in", True, 1), ("in", 0, True), ("in", 0, 1, 1), ["in", 0, 1], ("out", 0), ("out", 3), ("out", -1), ("out", None),
    ("turn", 1), ("turn", -3), ("turn", False), ("turn", GREAT), ("turn",), ("turn", 0, 1), ["turn", 0], ("Turn", 0),
    (("turn", 0),), [("turn", 0)], Bonds(ONE),
)
NO_LISTS = (None, 0, 1, True, "", "in", b"", {}, {1}, {("turn", 0): 1}, range(2), Bonds(ONE), iter([("turn", 0)]))


class Unseen(Exception):
    """An error that the package does not know."""


def state(bench):
    """All that can be seen of a bench, what can be done again included."""
    with bench.trial() as same:
        undone = []
        while True:
            try:
                undone.append(same.redo())
            except NothingLeft:
                break
    with bench.trial() as same:
        behind = [same.word]
        while len(same):
            same.undo()
            behind.append(same.word)
    return bench.bonds.table, bench.first, bench.word, len(bench), bench.deeds(), tuple(undone), tuple(behind)


class BenchCase(RefusalCase):

    def unchanged(self, bench, error, call, **fields):
        before = state(bench)
        self.refused(error, call, **fields)
        self.assertEqual(state(bench), before)


class MakingTest(RefusalCase):

    def test_fields(self):
        bonds = Bonds(PAIRS[3])
        for word in ((), (1,), (1, 2, 2, 1)):
            for given in (word, list(word)):
                bench = Bench(bonds, given)
                self.assertIs(bench.bonds, bonds)
                self.assertEqual((bench.first, bench.word, bench.deeds(), len(bench)), (word, word, (), 0))
                self.assertEqual({type(value) for value in (bench.first, bench.word, bench.deeds())}, {tuple})

    def test_fields_are_set_and_the_word_is_a_property(self):
        bench = Bench(word=[1], bonds=Bonds(ONE))
        self.assertLessEqual({"bonds", "first"}, set(vars(bench)))
        self.assertIsInstance(vars(Bench)["word"], property)
        with self.assertRaises(AttributeError):
            bench.word = (1,)

    def test_values_that_are_no_word(self):
        self.refuses_no_words(lambda word: Bench(Bonds(TRIPLES[2]), word))

    def test_lists_that_are_changed_later(self):
        word = [1, 2]
        bench = Bench(Bonds(PAIRS[3]), word)
        word.append(0)
        self.assertEqual((bench.first, bench.word), ((1, 2), (1, 2)))
        deeds = [("in", 0, 1), ("out", 0)]
        bench.do_all(deeds)
        deeds.clear()
        self.assertEqual(bench.deeds(), (("in", 0, 1), ("out", 0)))
        bench.do(("in", 1, 1))
        self.assertEqual((bench.first, bench.word), ((1, 2), (1, 1, 1, 2)))
        self.assertEqual(word, [1, 2, 0])


class DoTest(BenchCase):

    def test_each_kind_of_deed(self):
        bench = Bench(Bonds(PAIRS[3]), [1, 2, 1])
        self.assertEqual(bench.do(("turn", 0)), (2, 1, 2))
        self.assertEqual(bench.do(deed=("in", 3, 1)), (2, 1, 2, 1, 1))
        self.assertEqual(bench.word, (2, 1, 2, 1, 1))
        self.assertEqual(bench.do(("turn", 1)), (2, 2, 1, 2, 1))
        self.assertEqual(bench.do(("out", 0)), (1, 2, 1))
        self.assertEqual(bench.deeds(), (("turn", 0), ("in", 3, 1), ("turn", 1), ("out", 0)))
        self.assertEqual((len(bench), bench.first, bench.word), (4, (1, 2, 1), (1, 2, 1)))

    def test_against_deeds(self):
        for rows in (ONE, *PAIRS.values(), *TRIPLES):
            for seed in range(4):
                word = some_word(len(rows), 5, seed)
                for deed, behind in told_deeds(rows, word).items():
                    bench = Bench(Bonds(rows), word)
                    self.assertEqual(bench.do(deed), behind)
                    self.assertEqual((bench.word, bench.deeds(), bench.first), (behind, (deed,), word))
                    self.assertEqual((bench.undo(), bench.word), (deed, word))
                    self.assertEqual((bench.redo(), bench.word), (deed, behind))

    def test_deeds_that_are_refused(self):
        bench = Bench(Bonds(PAIRS[3]), [1, 2, 1])
        for deed in NO_DEEDS:
            with self.subTest(deed=deed):
                self.unchanged(bench, BadDeed, lambda: bench.do(deed), place=0)
        bench.do(("in", 3, 2))
        bench.do(("out", 3))
        bench.undo()
        self.assertEqual(bench.undo(), ("in", 3, 2))
        for deed in NO_DEEDS:
            self.unchanged(bench, BadDeed, lambda: bench.do(deed), place=0)
        self.assertEqual((bench.redo(), bench.redo()), (("in", 3, 2), ("out", 3)))

    def test_too_many_letters(self):
        bonds = Bonds(PAIRS[0])
        for many in (59, 60):
            bench = Bench(bonds, [1] * many)
            for at in (0, 1, 30, many):
                self.unchanged(bench, TooGreat, lambda: bench.do(("in", at, 2)), most=60)
            self.unchanged(bench, BadDeed, lambda: bench.do(("in", many + 1, 2)), place=0)
            self.unchanged(bench, BadDeed, lambda: bench.do(("in", 0, 3)), place=0)
            self.assertEqual(bench.do(("out", 0)), (1,) * (many - 2))
            self.assertEqual(len(bench.do(("in", 0, 2))), many)
        self.assertEqual(len(Bench(bonds, [1] * 58).do(("in", 58, 1))), 60)


class DoAllTest(BenchCase):

    def test_lists_and_tuples(self):
        deeds = (("in", 3, 1), ("turn", 1), ("out", 0), ("turn", 0))
        for given in (deeds, list(deeds)):
            bench = Bench(Bonds(PAIRS[3]), (2, 1, 2))
            self.assertEqual(bench.do_all(given), (2, 1, 2))
            self.assertEqual((bench.deeds(), len(bench), bench.word), (deeds, 4, (2, 1, 2)))
            self.assertEqual(bench.do_all(deeds=given), (2, 1, 2))
            self.assertEqual((bench.deeds(), len(bench)), (deeds * 2, 8))
            self.assertEqual([bench.undo() for deed in given], list(deeds[::-1]))
            self.assertEqual((bench.deeds(), len(bench), bench.word), (deeds, 4, (2, 1, 2)))

    def test_no_deeds_change_nothing(self):
        bench = Bench(Bonds(PAIRS[3]), (1,))
        for given in ((), []):
            self.assertEqual(bench.do_all(given), (1,))
            self.assertEqual((len(bench), bench.deeds()), (0, ()))
        bench.do_all([("in", 0, 2), ("in", 0, 1)])
        bench.undo()
        for given in ((), []):
            self.assertEqual(bench.do_all(given), (2, 2, 1))
            self.assertEqual((len(bench), bench.deeds()), (1, (("in", 0, 2),)))
        self.assertEqual(bench.redo(), ("in", 0, 1))

    def test_values_that_are_no_list(self):
        bench = Bench(Bonds(PAIRS[3]), (1, 2, 1))
        bench.do_all([("turn", 0), ("turn", 0)])
        bench.undo()
        for value in NO_LISTS:
            with self.subTest(value=value):
                self.unchanged(bench, BadDeed, lambda: bench.do_all(value), place=None)
        self.unchanged(bench, BadDeed, lambda: bench.do_all(("turn", 0)), place=0)

    def test_all_or_none(self):
        good = [("turn", 0), ("in", 0, 1), ("out", 0), ("turn", 0)]
        bench = Bench(Bonds(PAIRS[3]), (1, 2, 1))
        bench.do_all([("in", 3, 2), ("out", 3)])
        bench.undo()
        bench.undo()
        for place in range(len(good) + 1):
            for wrong in (None, ("out", 4), ("turn", 4), ("in", 9, 1), ["turn", 0], ("in", 0, 3)):
                deeds = good[:place] + [wrong] + good[place:]
                self.unchanged(bench, BadDeed, lambda: bench.do_all(deeds), place=place)
                self.unchanged(bench, BadDeed, lambda: bench.do_all(tuple(deeds)), place=place)
        self.assertEqual((bench.redo(), bench.redo()), (("in", 3, 2), ("out", 3)))

    def test_too_many_letters(self):
        bench = Bench(Bonds(PAIRS[3]), (1,) * 56)
        bench.do(("out", 0))
        bench.undo()
        more = [("in", 0, 2)]
        self.unchanged(bench, TooGreat, lambda: bench.do_all(more * 3), most=60)
        self.unchanged(bench, TooGreat, lambda: bench.do_all(more * 3 + [None]), most=60)
        self.unchanged(bench, BadDeed, lambda: bench.do_all(more * 2 + [None] + more), place=2)
        self.assertEqual(bench.redo(), ("out", 0))
        self.assertEqual(len(bench.do_all(more * 3)), 60)


class BackAndAgainTest(BenchCase):

    def test_down_to_nothing_left(self):
        bench = Bench(Bonds(PAIRS[3]), (1, 2, 1))
        self.unchanged(bench, NothingLeft, bench.undo)
        self.unchanged(bench, NothingLeft, bench.redo)
        stood = (("in", 0, 2), ("turn", 1), ("out", 3), ("turn", 0), ("in", 3, 2), ("out", 3))
        reached = [bench.word] + [bench.do(deed) for deed in stood]
        self.assertEqual(bench.deeds(), stood)
        for at in range(len(stood) - 1, -1, -1):
            self.assertEqual(bench.undo(), stood[at])
            self.assertEqual((bench.word, bench.deeds(), len(bench)), (reached[at], stood[:at], at))
        self.unchanged(bench, NothingLeft, bench.undo)
        for at in range(len(stood)):
            self.assertEqual(bench.redo(), stood[at])
            self.assertEqual((bench.word, bench.deeds(), len(bench)), (reached[at + 1], stood[:at + 1], at + 1))
        self.unchanged(bench, NothingLeft, bench.redo)

    def test_a_new_deed_ends_what_can_be_done_again(self):
        for again in (lambda bench: bench.do(("in", 0, 2)), lambda bench: bench.do_all([("in", 0, 2)])):
            bench = Bench(Bonds(PAIRS[3]), ())
            bench.do_all([("in", 0, 1), ("in", 1, 2), ("out", 1)])
            bench.undo()
            bench.undo()
            again(bench)
            self.unchanged(bench, NothingLeft, bench.redo)
            self.assertEqual((bench.undo(), bench.undo()), (("in", 0, 2), ("in", 0, 1)))
            self.assertEqual((bench.redo(), bench.redo()), (("in", 0, 1), ("in", 0, 2)))
            self.unchanged(bench, NothingLeft, bench.redo)

    def test_the_same_deed_ends_it_too(self):
        bench = Bench(Bonds(PAIRS[3]), ())
        bench.do_all([("in", 0, 1), ("in", 1, 2)])
        bench.undo()
        bench.undo()
        bench.do(("in", 0, 1))
        self.unchanged(bench, NothingLeft, bench.redo)

    def test_what_is_done_again_leaves_the_rest(self):
        bench = Bench(Bonds(PAIRS[3]), ())
        bench.do_all([("in", 0, 1), ("in", 1, 2), ("out", 1)])
        for many in range(3):
            bench.undo()
        bench.redo()
        self.assertEqual((bench.redo(), bench.undo(), bench.redo()), (("in", 1, 2), ("in", 1, 2), ("in", 1, 2)))
        self.assertEqual((bench.redo(), bench.word), (("out", 1), (1, 1)))

    def test_sixty_letters(self):
        bench = Bench(Bonds(PAIRS[3]), (1,) * 60)
        bench.do(("out", 58))
        self.assertEqual((bench.undo(), bench.word), (("out", 58), (1,) * 60))
        self.assertEqual((bench.redo(), bench.word), (("out", 58), (1,) * 58))

    def test_long_ways(self):
        for rows in LARGE[::3]:
            bonds = Bonds(rows)
            bench = Bench(bonds, some_word(len(rows), 12, 1))
            told = [bench.first]
            stood = []
            again = []
            for step in range(300):
                kind = step * step % 7
                if kind == 1 and stood:
                    again.append(stood.pop())
                    told.pop()
                    self.assertEqual(bench.undo(), again[-1])
                elif kind == 2 and again:
                    stood.append(again.pop())
                    told.append(done(bonds, told[-1], stood[-1]))
                    self.assertEqual(bench.redo(), stood[-1])
                else:
                    some = [deed for deed in deeds_of(bonds, told[-1]) if deed[0] != "in" or len(told[-1]) < 20]
                    stood.append(some[-1 - step % min(len(some), 5)])
                    told.append(done(bonds, told[-1], stood[-1]))
                    again = []
                    self.assertEqual(bench.do(stood[-1]), told[-1])
                self.assertEqual((bench.word, bench.deeds(), len(bench)), (told[-1], tuple(stood), len(stood)))
                self.assertEqual(bench.first, told[0])


class NeedlessTest(RefusalCase):

    def test_by_hand(self):
        for rows, word, many in (
            (ONE, (), 0), (ONE, (1,), 0), (ONE, (1,) * 60, 60), (ONE, (1,) * 59, 58), (PAIRS[3], (1, 2, 1), 0),
            (PAIRS[3], (1, 2, 1, 2), 2), (PAIRS[2], (1, 2, 1), 2), (PAIRS[0], (1, 2) * 30, 0),
        ):
            self.assertEqual(Bench(Bonds(rows), word).needless(), many)

    def test_of_the_word_as_it_is_now(self):
        bench = Bench(Bonds(PAIRS[3]), (1, 2, 1, 2))
        self.assertEqual(bench.needless(), 2)
        bench.do(("turn", 0))
        self.assertEqual(bench.needless(), 2)
        bench.do(("out", 2))
        self.assertEqual(bench.needless(), 0)
        bench.do(("in", 1, 1))
        self.assertEqual(bench.needless(), 2)
        for rows in LARGE:
            word = some_word(len(rows), 40, 7)
            self.assertEqual(Bench(Bonds(rows), word).needless(), 40 - length(Bonds(rows), word))


class EqualTest(unittest.TestCase):

    def test_the_same(self):
        one, other = Bench(Bonds(PAIRS[3]), (1, 2, 1)), Bench(Bonds([[1, 3], [3, 1]]), [1, 2, 1])
        self.same(one, other, True)
        one.do(("turn", 0))
        self.same(one, other, False)
        other.do_all([("turn", 0)])
        self.same(one, other, True)
        one.do(("turn", 0))
        one.undo()
        self.same(one, other, True)
        self.same(one, one, True)

    def same(self, one, other, told):
        self.assertIs(one == other, told)
        self.assertIs(other == one, told)
        self.assertIs(one != other, not told)
        self.assertIs(other != one, not told)

    def test_the_same_word_by_other_deeds(self):
        one, other = Bench(Bonds(PAIRS[3]), (1, 1, 1)), Bench(Bonds(PAIRS[3]), (1, 1, 1))
        one.do(("out", 0))
        other.do(("out", 1))
        self.assertEqual(one.word, other.word)
        self.same(one, other, False)
        one.do_all([("in", 0, 2), ("out", 0)])
        self.assertEqual(one.word, other.word)
        self.same(one, other, False)

    def test_other_words_and_other_bonds(self):
        one = Bench(Bonds(PAIRS[3]), (1,))
        self.same(one, Bench(Bonds(PAIRS[3]), (2,)), False)
        self.same(one, Bench(Bonds(PAIRS[3]), ()), False)
        self.same(one, Bench(Bonds(PAIRS[4]), (1,)), False)
        self.same(one, Bench(Bonds(ONE), (1,)), False)
        one, other = Bench(Bonds(PAIRS[3]), (1, 1, 2)), Bench(Bonds(PAIRS[3]), (2, 1, 1))
        one.do(("out", 0))
        other.do(("out", 1))
        self.assertEqual(one.word, other.word)
        self.same(one, other, False)
        one, other = Bench(Bonds(PAIRS[3]), (1,)), Bench(Bonds(PAIRS[3]), (2,))
        one.do(("in", 0, 1))
        other.do(("in", 0, 1))
        self.same(one, other, False)

    def test_other_things(self):
        bench = Bench(Bonds(PAIRS[3]), (1,))
        for value in (None, 0, (1,), "1", Bonds(PAIRS[3]), (bench,), [], bench.deeds()):
            self.same(bench, value, False)

    def test_no_other_operators(self):
        bench, bonds = Bench(Bonds(PAIRS[3]), (1,)), Bonds(PAIRS[3])
        for one, other in product((bench, bonds), (bench, bonds, 1, "1", (1,), None)):
            for operate in (
                lambda: one < other, lambda: one >= other, lambda: one + other, lambda: one * other,
                lambda: one - other, lambda: other + one, lambda: other < one, lambda: one[0], lambda: 1 in one,
                lambda: list(one), lambda: -one,
            ):
                with self.assertRaises(TypeError):
                    operate()


class TrialTest(BenchCase):

    def bench(self):
        """A bench with deeds that stand, and others that can be done again."""
        bench = Bench(Bonds(PAIRS[3]), (1, 2, 1))
        bench.do_all([("turn", 0), ("in", 3, 1), ("turn", 1), ("out", 0)])
        bench.undo()
        bench.undo()
        return bench

    def ways(self):
        """What can be done in a trial."""
        yield lambda bench: None
        yield lambda bench: bench.do(("in", 0, 2))
        yield lambda bench: bench.undo()
        yield lambda bench: (bench.undo(), bench.undo())
        yield lambda bench: bench.redo()
        yield lambda bench: (bench.redo(), bench.redo())
        yield lambda bench: (bench.undo(), bench.do(("in", 0, 2)), bench.undo())
        yield lambda bench: (bench.redo(), bench.do_all([("in", 0, 2), ("out", 0)]), bench.undo())
        yield lambda bench: (bench.undo(), bench.redo())
        yield lambda bench: bench.do_all([])

    def test_changes_are_taken_back(self):
        for way in self.ways():
            bench = self.bench()
            before = state(bench)
            with bench.trial() as same:
                self.assertIs(same, bench)
                way(bench)
            self.assertEqual(state(bench), before)
            bench.redo()
            self.assertEqual(bench.word, (2, 2, 1, 2, 1))
            self.assertEqual((bench.redo(), bench.word), (("out", 0), (1, 2, 1)))

    def test_changes_hold_inside(self):
        bench = self.bench()
        with bench.trial() as same:
            self.assertEqual(state(same), state(self.bench()))
            same.do(("in", 0, 2))
            self.assertEqual((bench.word, len(bench)), ((2, 2, 2, 1, 2, 1, 1), 3))
            self.refused(NothingLeft, bench.redo)

    def test_exceptions_pass(self):
        for error in (Unseen("x"), BadWord(3), KeyError("k"), NothingLeft()):
            for way in self.ways():
                bench = self.bench()
                before = state(bench)
                with self.assertRaises(error.__class__) as caught:
                    with bench.trial() as same:
                        way(same)
                        raise error
                self.assertIs(caught.exception, error)
                self.assertEqual(state(bench), before)

    def test_refusals_in_a_trial(self):
        bench = self.bench()
        before = state(bench)
        with self.assertRaises(BadDeed):
            with bench.trial() as same:
                same.do(("in", 0, 2))
                same.do(("out", 9))
        self.assertEqual(state(bench), before)

    def test_one_trial_in_another(self):
        bench = self.bench()
        before = state(bench)
        with bench.trial() as outer:
            outer.do(("in", 0, 1))
            outer.do(("in", 0, 2))
            outer.undo()
            middle = state(bench)
            for way in (lambda: inner.undo(), lambda: inner.redo(), lambda: inner.do(("in", 3, 2))):
                with outer.trial() as inner:
                    self.assertIs(inner, bench)
                    way()
                    self.assertNotEqual(inner.word, middle[2])
                self.assertEqual(state(bench), middle)
            with self.assertRaises(Unseen):
                with outer.trial() as inner:
                    inner.undo()
                    raise Unseen()
            self.assertEqual(state(bench), middle)
        self.assertEqual(state(bench), before)

    def test_one_trial_after_another(self):
        bench = self.bench()
        before = state(bench)
        for many in range(3):
            with bench.trial() as same:
                same.undo()
                same.do(("in", 0, 1))
            self.assertEqual(state(bench), before)
        bench.do(("in", 0, 1))
        self.assertEqual(bench.deeds(), (("turn", 0), ("in", 3, 1), ("in", 0, 1)))
        with bench.trial():
            bench.undo()
        self.assertEqual(bench.deeds(), (("turn", 0), ("in", 3, 1), ("in", 0, 1)))
        self.refused(NothingLeft, bench.redo)

    def test_a_bench_goes_on_behind_a_trial(self):
        bench, other = self.bench(), self.bench()
        with bench.trial() as same:
            same.redo()
            same.redo()
        for one in (bench, other):
            one.redo()
            one.do(("in", 0, 2))
            one.undo()
            one.undo()
        self.assertEqual(state(bench), state(other))
        self.assertTrue(bench == other)

    def test_benches_do_not_touch_each_other(self):
        one, other = self.bench(), self.bench()
        with one.trial() as same:
            same.undo()
            other.do(("in", 0, 1))
        self.assertEqual(other.deeds()[-1], ("in", 0, 1))
        self.assertEqual(state(one), state(self.bench()))


class TriedTest(BenchCase):

    def test_what_the_function_returns(self):
        bench = Bench(Bonds(SIX), (1, 2, 1))
        for value in (None, 0, False, "x", (1,), [1], bench):
            self.assertIs(tried(bench, lambda same: value), value)
        self.assertEqual(tried(function=lambda same: same.word, bench=bench), (1, 2, 1))

    def test_it_gets_the_bench_itself(self):
        bench = Bench(Bonds(PAIRS[3]), (1, 2, 1))
        got = []
        self.assertIsNone(tried(bench, got.append))
        self.assertIs(got[0], bench)
        self.assertEqual(len(got), 1)

    def test_all_is_taken_back(self):
        bench = Bench(Bonds(PAIRS[3]), (1, 2, 1))
        bench.do_all([("turn", 0), ("turn", 0)])
        bench.undo()
        before = state(bench)
        self.assertEqual(tried(bench, lambda same: same.do(("in", 0, 1))), (1, 1, 2, 1, 2))
        self.assertEqual(state(bench), before)
        self.assertEqual(tried(bench, lambda same: (same.undo(), same.word)), (("turn", 0), (1, 2, 1)))
        self.assertEqual(state(bench), before)
        self.assertEqual(tried(bench, lambda same: tried(same, Bench.redo)), ("turn", 0))
        self.assertEqual(state(bench), before)

    def test_exceptions_pass(self):
        bench = Bench(Bonds(PAIRS[3]), (1, 2, 1))
        bench.do(("turn", 0))

        def fails(same):
            same.undo()
            raise Unseen(same.word)

        before = state(bench)
        with self.assertRaises(Unseen) as caught:
            tried(bench, fails)
        self.assertEqual(caught.exception.args, ((1, 2, 1),))
        self.assertEqual(state(bench), before)
        self.unchanged(bench, BadDeed, lambda: tried(bench, lambda same: same.do(None)), place=0)


if __name__ == "__main__":
    unittest.main()
