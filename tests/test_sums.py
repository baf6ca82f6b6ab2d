import collections
import copy
import unittest

from sparsesum.errors import NoForm, TooLittle
from sparsesum.forms import compared, form_of, is_form, number_of
from sparsesum.heaps import done, settled, steps, weight
from sparsesum.sums import added, taken
from tests.samples import (
    broken_lists, forms_below, great_forms, no_forms, number_by_doubling, sparse_form, spread, walk_places, walk_steps,
)

SMALL = forms_below(8)
BEYOND = [[1200, 1000, 3], [1100, 1], [1199]]


def less(heap, marks):
    """A heap without some of its marks, falling; fails where one of them is not there."""
    left = collections.Counter(heap)
    left.subtract(marks)
    if min(left.values(), default=0) < 0:
        raise AssertionError("not all marks are there")
    return sorted(left.elements(), reverse=True)


def mixed_forms():
    """Forms of many places with gaps of many sorts."""
    found = []
    for seed in range(12):
        form, place = [], 999 - seed
        for gap in spread(seed, 600, 2 + seed % 5):
            if place >= 0:
                form.append(place)
            place = place - 2 - gap
        found.append(form)
    return found


def great_pairs():
    great, mixed = great_forms(), mixed_forms()
    pairs = [(one, other) for one in great for other in great[::3]]
    return pairs + list(zip(mixed, mixed[1:])) + list(zip(mixed, great)) + [(form, form) for form in great + mixed]


class AddedTest(unittest.TestCase):
    def check(self, one, other):
        form, row = added(one, other)
        self.assertEqual(form, sparse_form(number_by_doubling(one) + number_by_doubling(other)))
        self.assertEqual(walk_steps(one + other, row), form)
        self.assertLessEqual(len(row), weight(one + other) - weight(form))

    def test_ordinary(self):
        self.assertEqual(added([0], [0]), ([1], [("split", 0)]))
        self.assertEqual(added([1], [1]), ([2, 0], [("split", 1)]))
        self.assertEqual(added([1], [0]), ([2], [("join", 0)]))
        self.assertEqual(added([0], [1]), ([2], [("join", 0)]))
        self.assertEqual(added([7, 4, 0], [7, 4, 0])[0], form_of(86))
        self.assertEqual(added([7], [4, 0]), ([7, 4, 0], []))

    def test_with_the_empty_form(self):
        self.assertEqual(added([], []), ([], []))
        for form in SMALL + great_forms():
            self.assertEqual(added(form, []), (form, []))
            self.assertEqual(added([], form), (form, []))

    def test_all_pairs_of_a_range(self):
        for one in SMALL:
            for other in SMALL:
                self.check(one, other)

    def test_great_pairs(self):
        for one, other in great_pairs() + [(one, other) for one in BEYOND for other in BEYOND]:
            self.check(one, other)
            self.check(other, one)

    def test_as_many_marks_as_there_can_be(self):
        odd, even = list(range(999, -1, -2)), list(range(998, -1, -2))
        for one in (odd, even):
            for other in (odd, even):
                self.check(one, other)
        self.assertEqual(added(odd, even)[0], form_of(number_of(odd) + number_of(even)))

    def test_the_sum_is_as_great_as_it_comes(self):
        self.assertEqual(added([999], [998])[0], [1000])
        self.assertEqual(added([999], [999])[0], [1000, 997])

    def test_walked_by_the_programs_own_steps(self):
        for one, other in [([7, 4, 0], [7, 4, 0]), ([9, 7, 5, 3, 1], [8, 6, 4, 2, 0]), ([6, 4, 2, 0], [6, 4, 2, 0])]:
            form, row = added(one, other)
            heap = one + other
            for step in row:
                self.assertIn(step, steps(heap))
                heap = done(heap, step)
            self.assertEqual(heap, form)
            self.assertEqual(settled(one + other)[0], form)

    def test_kinds(self):
        for one, other in [([], []), ([7], []), ([0], [0]), ([7, 4, 0], [7, 4, 0])]:
            told = added(one, other)
            self.assertIs(type(told), tuple)
            self.assertEqual([type(part) for part in told], [list, list])
            self.assertTrue(all(type(place) is int for place in told[0]))
            for step in told[1]:
                self.assertIs(type(step), tuple)
                self.assertEqual([type(part) for part in step], [str, int])


class TakenTest(unittest.TestCase):
    def check(self, great, small):
        form, places, row = taken(great, small)
        self.assertEqual(form, sparse_form(number_by_doubling(great) - number_by_doubling(small)))
        left = less(walk_places(great, places), small)
        self.assertEqual(walk_steps(left, row), form)
        self.assertLessEqual(len(row), weight(left) - weight(form))
        return places

    def test_ordinary(self):
        self.assertEqual(taken([7, 4, 0], [4]), ([7, 0], [], []))
        self.assertEqual(taken([1], [0]), ([0], [1], []))
        self.assertEqual(taken([2], [1]), ([0], [2], []))
        self.assertEqual(taken([2], [0]), ([1], [2], []))
        self.assertEqual(taken([7, 4, 0], [5, 3, 1])[0], form_of(43 - 20))

    def test_with_the_empty_form(self):
        self.assertEqual(taken([], []), ([], [], []))
        for form in SMALL + great_forms():
            self.assertEqual(taken(form, []), (form, [], []))

    def test_a_form_from_itself(self):
        for form in SMALL + great_forms():
            self.assertEqual(taken(form, form)[0], [])
            self.assertEqual(taken(form, list(form))[0], [])
            self.check(form, list(form))

    def test_all_pairs_of_a_range(self):
        for first, one in enumerate(SMALL):
            for other in SMALL[:first + 1]:
                self.check(one, other)

    def test_great_pairs(self):
        for one, other in great_pairs() + [(one, other) for one in BEYOND for other in BEYOND]:
            if compared(one, other) < 0:
                self.check(other, one)
            else:
                self.check(one, other)

    def test_one_less_and_one_left(self):
        for great in great_forms() + mixed_forms():
            self.check(great, [0])
            self.check(great, form_of(number_of(great) - 1))
            self.assertEqual(taken(great, form_of(number_of(great) - 1))[0], [0])

    def test_hundreds_of_places_opened(self):
        for small in ([0], [1], [3, 1], list(range(998, -1, -2)), list(range(997, -1, -2)), list(range(998, -1, -3))):
            self.assertGreater(len(self.check([999], small)), 300)
        self.assertGreater(len(self.check([999, 0], list(range(998, -1, -2)))), 300)

    def test_what_was_added_is_taken_away_again(self):
        for one, other in great_pairs()[::5]:
            total = added(one, other)[0]
            self.assertEqual(taken(total, other)[0], one)
            self.assertEqual(taken(total, one)[0], other)

    def test_kinds(self):
        for one, other in [([], []), ([7], []), ([7], [0]), ([7, 4, 0], [5, 3, 1])]:
            told = taken(one, other)
            self.assertIs(type(told), tuple)
            self.assertEqual([type(part) for part in told], [list, list, list])
            self.assertTrue(all(type(place) is int for place in told[0] + told[1]))
            for step in told[2]:
                self.assertIs(type(step), tuple)
                self.assertEqual([type(part) for part in step], [str, int])

    def test_steps_behind_openings(self):
        rows = [taken(one, other)[2] for first, one in enumerate(SMALL) for other in SMALL[:first]]
        self.assertTrue(any(rows))


class TooLittleTest(unittest.TestCase):
    def refused(self, one, other):
        with self.assertRaises(TooLittle, msg=(one, other)) as caught:
            taken(one, other)
        self.assertIs(type(caught.exception), TooLittle)

    def test_all_pairs_of_a_range(self):
        for first, one in enumerate(SMALL):
            for other in SMALL[first + 1:]:
                self.refused(one, other)

    def test_great_pairs(self):
        for one, other in great_pairs():
            if number_by_doubling(one) < number_by_doubling(other):
                self.refused(one, other)
            elif number_by_doubling(one) > number_by_doubling(other):
                self.refused(other, one)

    def test_less_by_one(self):
        for form in great_forms():
            self.refused(form_of(number_of(form) - 1), form)
            self.refused(form, form_of(number_of(form) + 1))
        self.refused([], [0])


class NoFormTest(unittest.TestCase):
    def refused(self, ask, one, other):
        with self.assertRaises(NoForm) as caught:
            ask(one, other)
        self.assertIs(type(caught.exception), NoForm)

    def test_on_either_side(self):
        for thing in no_forms():
            for form in ([], [0], [7, 4, 0], [999]):
                for ask in (added, taken):
                    with self.subTest(ask=ask.__name__, kind=type(thing), form=form):
                        self.refused(ask, thing, form)
                        self.refused(ask, form, thing)

    def test_on_both_sides(self):
        for thing in no_forms():
            for ask in (added, taken):
                with self.subTest(ask=ask.__name__, kind=type(thing)):
                    self.refused(ask, thing, thing)

    def test_goes_before_too_little(self):
        self.refused(taken, [], [1, 0])
        self.refused(taken, [0], [5, 5])
        self.refused(taken, [0, 0], [999])
        self.refused(taken, [1, 0], [7, 4, 0])
        self.refused(taken, (), [7, 4, 0])
        self.refused(taken, [0], (7, 4, 0))
        self.refused(taken, [True], [7])
        self.refused(taken, [3], [7, "4"])
        self.refused(taken, [3], [7, -1])


class HandedInTest(unittest.TestCase):
    def test_what_is_handed_in_stays_as_it_was(self):
        for one, other in [(one, other) for one in SMALL[:20] for other in SMALL[:20]] + great_pairs():
            before = (list(one), list(other))
            added(one, other)
            if compared(one, other) < 0:
                self.assertRaises(TooLittle, taken, one, other)
            else:
                taken(one, other)
            self.assertEqual((one, other), before)

    def test_what_is_refused_stays_as_it_was(self):
        plain = [thing for thing in broken_lists() if all(type(entry) is int for entry in thing)]
        for thing in plain + [[7, 4, True], ["7", "4"], [[7], [4]], [None], [7, {4: 4}]]:
            before = copy.deepcopy(thing)
            form = [7, 4, 0]
            for ask in (added, taken):
                self.assertRaises(NoForm, ask, thing, form)
                self.assertRaises(NoForm, ask, form, thing)
            self.assertEqual(thing, before)
            self.assertEqual(form, [7, 4, 0])

    def check_own(self, ask, one, other):
        before = (list(one), list(other))
        right = copy.deepcopy(ask(one, other))
        for told in ask(one, other):
            self.assertIsNot(told, one)
            self.assertIsNot(told, other)
        told = ask(one, other)
        for part, wanted in zip(told, right):
            self.assertEqual(part, wanted)
            part.append("mine")
            part[0] = "mine"
        self.assertEqual((one, other), before)
        self.assertEqual(ask(one, other), right)

    def test_a_told_list_is_new_and_the_askers_own(self):
        for one, other in [([], []), ([7, 4, 0], []), ([7, 4, 0], [7, 4, 0]), ([7, 4, 0], [5, 3, 1]), ([2], [0])]:
            self.check_own(added, one, other)
            self.check_own(added, other, one)
            self.check_own(added, one, one)
            self.check_own(taken, one, other)
            self.check_own(taken, one, one)

    def test_the_same_list_on_both_sides(self):
        form = [7, 4, 0]
        self.assertEqual(added(form, form), added([7, 4, 0], [7, 4, 0]))
        self.assertEqual(taken(form, form), ([], [], []))
        self.assertEqual(form, [7, 4, 0])

    def test_told_forms_can_be_handed_in_again(self):
        form = [0]
        for _ in range(50):
            form = added(form, form)[0]
            self.assertIs(is_form(form), True)
        self.assertEqual(form, form_of(2 ** 50))


class ArgumentNamesTest(unittest.TestCase):
    def test_names_of_the_arguments(self):
        self.assertEqual(added(one=[1], other=[0]), ([2], [("join", 0)]))
        self.assertEqual(taken(one=[2], other=[0]), ([1], [2], []))


if __name__ == "__main__":
    unittest.main()
