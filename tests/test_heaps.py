import unittest

from sparsesum.errors import NoStep
from sparsesum.heaps import done, settled, steps, weight
from tests.samples import (
    forms_below, full_heaps, great_forms, mixed_heaps, number_of_heap, small_heaps, sparse_form, spread, steps_tried,
    walk_by, walk_steps, weight_of_heap,
)

HEAPS = small_heaps() + mixed_heaps() + full_heaps()
BEYOND = [[1200] * 3 + [1199, 1000, 1000], [3] * 150]


def row_by_hand(heap, picks):
    """The row of steps that the picks choose, found by trying."""
    return walk_by(heap, lambda found, turn: found[picks[turn] % len(found)] if turn < len(picks) else found[0])


def picks_for(heap, choose):
    """Picks, the least ones, by which choose's steps are done, and the row of them."""
    picks = []

    def noted(found, turn):
        picks.append(found.index(choose(found)))
        return choose(found)

    row = walk_by(heap, noted)
    return picks, row


def ends_of_all_rows(heap, seen):
    """The heaps at which any row of steps from a heap ends."""
    key = tuple(sorted(heap))
    if key not in seen:
        found = steps_tried(heap)
        ends = [ends_of_all_rows(walk_steps(heap, [step]), seen) for step in found]
        seen[key] = set().union(*ends) if found else {tuple(sorted(heap, reverse=True))}
    return seen[key]


class WeightTest(unittest.TestCase):
    def test_single_marks(self):
        self.assertEqual(weight([0]), 5)
        self.assertEqual(weight([1]), 9)
        self.assertEqual(weight([2]), 12)
        self.assertEqual(weight([3]), 15)
        self.assertEqual(weight([999]), 3003)

    def test_the_empty_heap(self):
        self.assertEqual(weight([]), 0)

    def test_several_marks(self):
        self.assertEqual(weight([7, 4, 0]), 50)
        self.assertEqual(weight([0, 0, 0]), 15)
        self.assertEqual(weight([1, 0, 1]), 23)
        self.assertEqual(weight([999] * 100), 300300)
        self.assertEqual(weight([0] * 100), 500)

    def test_is_the_sum_over_the_marks(self):
        for heap in HEAPS + BEYOND:
            self.assertEqual(weight(heap), weight_of_heap(heap))
            self.assertEqual(weight(heap), sum(weight([place]) for place in heap))

    def test_tells_a_whole_number(self):
        for heap in ([], [0], [3, 3, 999]):
            self.assertIs(type(weight(heap)), int)


class StepsTest(unittest.TestCase):
    def test_ordinary(self):
        self.assertEqual(steps([3, 4]), [("join", 3)])
        self.assertEqual(steps([4, 3]), [("join", 3)])
        self.assertEqual(steps([3, 3]), [("split", 3)])
        self.assertEqual(steps([0, 0]), [("split", 0)])
        self.assertEqual(steps([1, 1]), [("split", 1)])
        self.assertEqual(steps([0, 1]), [("join", 0)])

    def test_none(self):
        for heap in [[], [0], [999], [0, 2], [2, 0], [7, 4, 0], [0, 7, 4]] + forms_below(8) + great_forms():
            self.assertEqual(steps(heap), [])

    def test_by_places_and_the_split_first(self):
        self.assertEqual(steps([1, 0, 1, 0]), [("split", 0), ("join", 0), ("split", 1)])
        self.assertEqual(steps([9, 8, 9, 3, 3, 3, 2]), [("join", 2), ("split", 3), ("join", 8), ("split", 9)])
        self.assertEqual(
            steps([12, 11, 11, 10, 10, 2, 2, 100, 100]),
            [("split", 2), ("split", 10), ("join", 10), ("split", 11), ("join", 11), ("split", 100)],
        )

    def test_each_is_told_once(self):
        self.assertEqual(steps([5] * 7), [("split", 5)])
        self.assertEqual(steps([5] * 3 + [6] * 4), [("split", 5), ("join", 5), ("split", 6)])
        self.assertEqual(steps([0] * 100), [("split", 0)])

    def test_all_that_can_be_done(self):
        for heap in HEAPS + BEYOND:
            self.assertEqual(steps(heap), steps_tried(heap))

    def test_the_order_of_the_marks_is_all_the_same(self):
        for heap in HEAPS:
            self.assertEqual(steps(heap[::-1]), steps(heap))
            self.assertEqual(steps(sorted(heap)), steps(heap))

    def test_tells_a_list_of_tuples(self):
        self.assertIs(type(steps([])), list)
        for heap in ([0, 0, 1, 1], [999] * 100):
            self.assertIs(type(steps(heap)), list)
            for step in steps(heap):
                self.assertIs(type(step), tuple)
                self.assertEqual([type(part) for part in step], [str, int])


class DoneTest(unittest.TestCase):
    def test_joins(self):
        self.assertEqual(done([3, 4], ("join", 3)), [5])
        self.assertEqual(done([4, 3], ("join", 3)), [5])
        self.assertEqual(done([0, 1], ("join", 0)), [2])
        self.assertEqual(done([2, 1], ("join", 1)), [3])
        self.assertEqual(done([999, 998], ("join", 998)), [1000])

    def test_splits(self):
        self.assertEqual(done([0, 0], ("split", 0)), [1])
        self.assertEqual(done([1, 1], ("split", 1)), [2, 0])
        self.assertEqual(done([2, 2], ("split", 2)), [3, 0])
        self.assertEqual(done([3, 3], ("split", 3)), [4, 1])
        self.assertEqual(done([999, 999], ("split", 999)), [1000, 997])

    def test_all_others_stay_and_the_heap_is_falling(self):
        self.assertEqual(done([0, 3, 9, 4, 3, 12], ("join", 3)), [12, 9, 5, 3, 0])
        self.assertEqual(done([0, 0, 7, 0, 12, 1], ("split", 0)), [12, 7, 1, 1, 0])
        self.assertEqual(done([5, 1, 9, 5, 5, 5], ("split", 5)), [9, 6, 5, 5, 3, 1])

    def test_every_step_of_many_heaps(self):
        for heap in HEAPS + BEYOND:
            for step in steps_tried(heap):
                behind = done(heap, step)
                self.assertEqual(behind, walk_steps(heap, [step]))
                self.assertEqual(number_of_heap(behind), number_of_heap(heap))
                self.assertLess(weight(behind), weight(heap))

    def test_tells_a_list_of_whole_numbers(self):
        behind = done([0, 0, 5], ("split", 0))
        self.assertIs(type(behind), list)
        self.assertTrue(all(type(place) is int for place in behind))

    def refused(self, heap, step):
        with self.assertRaises(NoStep, msg=(heap, step)) as caught:
            done(heap, step)
        self.assertIs(type(caught.exception), NoStep)

    def test_refuses_what_can_not_be_done(self):
        for heap in ([], [0], [3], [5], [2, 0], [7, 4, 0]):
            for place in range(-3, 10):
                self.refused(heap, ("join", place))
                self.refused(heap, ("split", place))
        self.refused([3, 4], ("split", 3))
        self.refused([3, 4], ("split", 4))
        self.refused([3, 4], ("join", 4))
        self.refused([3, 4], ("join", 2))
        self.refused([3, 3], ("join", 3))
        self.refused([3, 3], ("join", 2))
        self.refused([3, 5], ("join", 3))
        self.refused([4, 4, 2, 2], ("join", 3))

    def test_places_below_0(self):
        for heap in ([], [0], [0, 0], [0, 0, 1, 1], [999] * 100, [0] * 100, [1, 2, 3]):
            for place in (-1, -2, -3, -998, -999, -1000, -(10 ** 30)):
                self.refused(heap, ("join", place))
                self.refused(heap, ("split", place))

    def test_places_above_all_marks(self):
        for heap in ([], [0, 0], [998, 999, 999]):
            for place in (1000, 1001, 5000, 10 ** 30):
                self.refused(heap, ("join", place))
                self.refused(heap, ("split", place))

    def test_every_step_that_is_not_one_of_the_heap(self):
        for heap in small_heaps():
            possible = steps_tried(heap)
            for place in range(-3, 8):
                for word in ("join", "split"):
                    if (word, place) not in possible:
                        self.refused(heap, (word, place))


class SettledTest(unittest.TestCase):
    def check(self, heap, *picks):
        form, row = settled(heap, *picks)
        self.assertEqual(form, sparse_form(number_of_heap(heap)))
        self.assertEqual(walk_steps(heap, row), form)
        self.assertLessEqual(len(row), weight(heap) - weight(form))
        return row

    def test_ordinary(self):
        self.assertEqual(settled([0, 0]), ([1], [("split", 0)]))
        self.assertEqual(settled([1, 1]), ([2, 0], [("split", 1)]))
        self.assertEqual(settled([4, 3]), ([5], [("join", 3)]))
        self.assertEqual(settled([0, 0, 0]), ([2], [("split", 0), ("join", 0)]))
        self.assertEqual(settled([5, 5, 5]), ([7, 3], [("split", 5), ("join", 5)]))

    def test_the_empty_heap(self):
        self.assertEqual(settled([]), ([], []))
        self.assertEqual(settled([], None), ([], []))
        self.assertEqual(settled([], [3, 1]), ([], []))

    def test_forms_are_settled(self):
        for form in forms_below(8) + great_forms():
            self.assertEqual(settled(form), (form, []))
            self.assertEqual(settled(form[::-1], [1, 2, 3]), (form, []))

    def test_picks_choose(self):
        heap = [0, 0, 1, 1]
        self.assertEqual(settled(heap, [0])[1][0], ("split", 0))
        self.assertEqual(settled(heap, [1])[1][0], ("join", 0))
        self.assertEqual(settled(heap, [2])[1][0], ("split", 1))
        self.assertEqual(settled(heap, [3])[1][0], ("split", 0))
        self.assertEqual(settled(heap, [3 * 10 ** 40 + 1])[1][0], ("join", 0))
        self.assertEqual(settled(heap, [1, 0]), ([3, 0], [("join", 0), ("join", 0), ("split", 2)]))

    def test_without_picks_the_first_step_is_done(self):
        for heap in HEAPS + BEYOND:
            row = self.check(heap)
            self.assertEqual(row, row_by_hand(heap, []))
            self.assertEqual(self.check(heap, None), row)
            self.assertEqual(self.check(heap, []), row)

    def test_with_picks_of_all_sorts(self):
        for turn, heap in enumerate(HEAPS):
            for picks in ([1], [0, 1], [7, 0, 5], [1] * 400, spread(turn, 30, 9), spread(turn, 600, 10 ** 9)):
                self.assertEqual(self.check(heap, picks), row_by_hand(heap, picks))

    def test_with_picks_that_single_out_a_sort_of_steps(self):
        for heap in mixed_heaps() + full_heaps():
            for choose in (max, lambda found: found[-1], lambda found: found[len(found) // 2]):
                picks, row = picks_for(heap, choose)
                self.assertEqual(self.check(heap, picks), row)
                self.assertEqual(self.check(heap, picks + [5, 0, 3]), row)
                for kept in (1, len(picks) // 2):
                    told = self.check(heap, picks[:kept])
                    self.assertEqual(told, row_by_hand(heap, picks[:kept]))
                    self.assertEqual(told[:kept], row[:kept])

    def test_the_same_form_whatever_the_picks(self):
        seen = {}
        for heap in small_heaps():
            self.assertEqual(ends_of_all_rows(heap, seen), {tuple(settled(heap)[0])})

    def test_the_longest_rows(self):
        heap = [999] * 100
        picks, row = picks_for(heap, lambda found: max(found, key=lambda step: (step[0], -step[1])))
        self.assertGreater(len(row), 8000)
        self.assertEqual(self.check(heap, picks), row)

    def test_the_order_of_the_marks_is_all_the_same(self):
        for heap in mixed_heaps():
            self.assertEqual(settled(heap[::-1], [2, 1]), settled(heap, [2, 1]))
            self.assertEqual(settled(sorted(heap)), settled(heap))

    def test_kinds(self):
        for heap in ([], [3], [0, 0, 1, 1], [999] * 100):
            told = settled(heap)
            self.assertIs(type(told), tuple)
            self.assertEqual([type(part) for part in told], [list, list])
            self.assertTrue(all(type(place) is int for place in told[0]))
            for step in told[1]:
                self.assertIs(type(step), tuple)
                self.assertEqual([type(part) for part in step], [str, int])


class HandedInTest(unittest.TestCase):
    def test_what_is_handed_in_stays_as_it_was(self):
        for heap in HEAPS:
            before = list(heap)
            weight(heap)
            for step in steps(heap):
                done(heap, step)
            for step in (("join", 700), ("split", 700), ("join", -1)):
                self.assertRaises(NoStep, done, heap, step)
            settled(heap)
            picks = [2, 0, 7, 1]
            settled(heap, picks)
            self.assertEqual(heap, before)
            self.assertEqual(picks, [2, 0, 7, 1])

    def test_a_heap_may_be_its_own_picks(self):
        heap = [1, 0, 0, 1, 2]
        self.assertEqual(settled(heap, heap), settled(list(heap), list(heap)))
        self.assertEqual(heap, [1, 0, 0, 1, 2])

    def test_a_told_list_is_new_and_the_askers_own(self):
        for heap in ([], [3], [7, 4, 0], [0, 0, 1, 1], [5] * 9):
            for ask in (steps, lambda heap: settled(heap)[0], lambda heap: settled(heap)[1]):
                before = list(heap)
                told = ask(heap)
                right = list(told)
                self.assertIsNot(told, heap)
                self.assertIsNot(ask(heap), ask(heap))
                told.append("mine")
                told[0] = "mine"
                self.assertEqual(heap, before)
                self.assertEqual(ask(heap), right)

    def test_the_heap_behind_a_step_is_the_askers_own(self):
        heap = [5, 4, 3]
        told = done(heap, ("join", 3))
        told.clear()
        self.assertEqual(heap, [5, 4, 3])
        self.assertEqual(done(heap, ("join", 3)), [5, 5])

    def test_the_two_told_lists_are_apart(self):
        form, row = settled([])
        form.append("mine")
        self.assertEqual(row, [])
        self.assertEqual(settled([]), ([], []))

    def test_picks_are_not_kept(self):
        picks = [2, 2]
        form, row = settled([0, 0, 1, 1], picks)
        self.assertIsNot(row, picks)
        picks.clear()
        row.clear()
        self.assertEqual(settled([0, 0, 1, 1]), ([3, 0], row_by_hand([0, 0, 1, 1], [])))


class ArgumentNamesTest(unittest.TestCase):
    def test_names_of_the_arguments(self):
        self.assertEqual(weight(heap=[0]), 5)
        self.assertEqual(steps(heap=[0, 0]), [("split", 0)])
        self.assertEqual(done(heap=[0, 0], step=("split", 0)), [1])
        self.assertEqual(settled(heap=[0, 0]), ([1], [("split", 0)]))
        self.assertEqual(settled(heap=[0, 0], picks=[3]), ([1], [("split", 0)]))
        self.assertEqual(settled(heap=[0, 0], picks=None), ([1], [("split", 0)]))


if __name__ == "__main__":
    unittest.main()
