import copy
import unittest

from sparsesum.errors import NoForm, NoNumber
from sparsesum.forms import compared, form_of, is_form, moved_down, moved_up, number_of
from tests.samples import (
    broken_lists, forms_below, great_forms, great_numbers, member_by_doubling, no_forms, no_numbers, number_by_doubling,
)

SMALL = forms_below(13)


class IsFormTest(unittest.TestCase):
    def test_forms(self):
        for form in [[], [0], [1], [2], [2, 0], [3, 0], [3, 1], [7, 4, 0], [999], [999, 0]] + SMALL + great_forms():
            self.assertIs(is_form(form), True, form)

    def test_every_list_of_few_small_places(self):
        lists = [[]]
        for turn in range(4):
            lists = lists + [[place] + rest for place in range(-1, 6) for rest in lists if len(rest) == turn]
        for thing in lists:
            falling = all(thing[k] >= thing[k + 1] + 2 for k in range(len(thing) - 1))
            self.assertIs(is_form(thing), falling and -1 not in thing, thing)

    def test_other_things(self):
        for thing in no_forms():
            with self.subTest(kind=type(thing)):
                self.assertIs(is_form(thing), False)

    def test_a_tuple_is_no_form(self):
        for form in [[], [0], [7, 4, 0]]:
            self.assertIs(is_form(tuple(form)), False)

    def test_somewhat_beyond_the_bound(self):
        self.assertIs(is_form([1200, 1000, 3]), True)
        self.assertIs(is_form([1200, 1199]), False)


class NumberOfTest(unittest.TestCase):
    def test_ordinary(self):
        self.assertEqual(number_of([7, 4, 0]), 43)
        self.assertEqual(number_of([0]), 1)
        self.assertEqual(number_of([1]), 2)
        self.assertEqual(number_of([2]), 3)
        self.assertEqual(number_of([2, 0]), 4)

    def test_empty(self):
        self.assertEqual(number_of([]), 0)

    def test_all_small_forms_have_all_small_numbers(self):
        self.assertEqual([number_of(form) for form in SMALL], list(range(member_by_doubling(13))))

    def test_great(self):
        for form in great_forms() + [[1200, 1000, 3]]:
            self.assertEqual(number_of(form), number_by_doubling(form))
        self.assertEqual(number_of(list(range(999, -1, -2))), member_by_doubling(1000) - 1)

    def test_tells_a_whole_number(self):
        for form in [[], [0], [7, 4, 0], [999]]:
            self.assertIs(type(number_of(form)), int)


class FormOfTest(unittest.TestCase):
    def test_ordinary(self):
        told = [form_of(number) for number in range(9)]
        self.assertEqual(told, [[], [0], [1], [2], [2, 0], [3], [3, 0], [3, 1], [4]])
        self.assertEqual(form_of(43), [7, 4, 0])

    def test_a_range(self):
        for number, form in enumerate(SMALL):
            self.assertEqual(form_of(number), form)
        for number in range(3000):
            form = form_of(number)
            self.assertTrue(is_form(form))
            self.assertEqual(number_of(form), number)

    def test_great_numbers(self):
        for number in great_numbers():
            form = form_of(number)
            self.assertTrue(is_form(form))
            self.assertEqual(number_by_doubling(form), number)
            self.assertEqual(number_of(form), number)

    def test_at_the_bound(self):
        bound = member_by_doubling(1000)
        self.assertEqual(form_of(bound - 1), list(range(999, -1, -2)))
        self.assertEqual(form_of(member_by_doubling(999)), [999])
        self.assertEqual(form_of(member_by_doubling(999) + 1), [999, 0])
        self.assertEqual(form_of(member_by_doubling(999) - 1), list(range(998, -1, -2)))

    def test_somewhat_beyond_the_bound_nothing_is_refused(self):
        self.assertEqual(form_of(member_by_doubling(1000)), [1000])
        self.assertEqual(form_of(member_by_doubling(1200) + 43), [1200, 7, 4, 0])

    def test_the_form_of_a_forms_number_is_that_form(self):
        for form in SMALL + great_forms():
            self.assertEqual(form_of(number_of(form)), form)

    def test_tells_a_list_of_whole_numbers(self):
        for number in (0, 1, 2, 4, 43):
            self.assertIs(type(form_of(number)), list)
            self.assertTrue(all(type(place) is int for place in form_of(number)))

    def test_a_told_list_is_the_askers_own(self):
        for number, form in [(0, []), (1, [0]), (2, [1]), (43, [7, 4, 0])]:
            told = form_of(number)
            told.append("mine")
            told[0] = "mine"
            self.assertEqual(form_of(number), form)
            self.assertEqual(number_of(form), number)
            self.assertIsNot(form_of(number), form_of(number))

    def test_refuses_what_is_no_whole_number(self):
        for thing in no_numbers():
            with self.subTest(kind=type(thing)):
                self.assertRaises(NoNumber, form_of, thing)

    def test_what_is_refused_stays_as_it_was(self):
        thing = [7, 4, 0]
        self.assertRaises(NoNumber, form_of, thing)
        self.assertEqual(thing, [7, 4, 0])


class ComparedTest(unittest.TestCase):
    def check(self, one, other, wanted):
        told = compared(one, other)
        self.assertIs(type(told), int)
        self.assertEqual(told, wanted, (one, other))

    def test_all_pairs_of_a_range(self):
        forms = forms_below(10)
        for first, one in enumerate(forms):
            for second, other in enumerate(forms):
                self.check(one, other, (first > second) - (first < second))

    def test_great_forms(self):
        for one in great_forms():
            for other in great_forms():
                first, second = number_by_doubling(one), number_by_doubling(other)
                self.check(one, other, (first > second) - (first < second))

    def test_differing_in_a_low_place_alone(self):
        top = list(range(999, 9, -3))
        self.check(top + [1], top + [0], 1)
        self.check(top + [0], top + [1], -1)
        self.check(top + [0], top, 1)
        self.check(top, top + [0], -1)
        self.check(top + [5, 0], top + [4, 2, 0], 1)
        self.check(top, list(top), 0)

    def test_a_longer_form_may_have_the_lesser_number(self):
        self.check([999], list(range(998, -1, -2)), 1)
        self.check(list(range(998, -1, -2)), [999], -1)
        self.check([5], [4, 2, 0], 1)
        self.check([4, 2, 0], [5], -1)
        self.check([10], [9], 1)
        self.check([9], [10], -1)

    def test_with_the_empty_form(self):
        self.check([], [], 0)
        self.check([], [0], -1)
        self.check([0], [], 1)

    def test_the_same_list_on_both_sides(self):
        form = [7, 4, 0]
        self.check(form, form, 0)

    def test_somewhat_beyond_the_bound_nothing_is_refused(self):
        self.check([1200, 3], [1200, 1], 1)


class MovedTest(unittest.TestCase):
    def test_ordinary(self):
        self.assertEqual(moved_up([7, 4, 0]), [8, 5, 1])
        self.assertEqual(moved_down([7, 4, 0]), [6, 3])
        self.assertEqual(moved_down([7, 4, 1]), [6, 3, 0])

    def test_edges(self):
        self.assertEqual(moved_up([]), [])
        self.assertEqual(moved_down([]), [])
        self.assertEqual(moved_up([0]), [1])
        self.assertEqual(moved_down([0]), [])
        self.assertEqual(moved_down([1]), [0])
        self.assertEqual(moved_down([2, 0]), [1])
        self.assertEqual(moved_up([999, 0]), [1000, 1])
        self.assertEqual(moved_down([999, 0]), [998])

    def test_place_by_place(self):
        for form in SMALL + great_forms() + [[1200, 0]]:
            self.assertEqual(moved_up(form), [place + 1 for place in form])
            self.assertEqual(moved_down(form), [place - 1 for place in form if place != 0])

    def test_tell_forms(self):
        for form in SMALL + great_forms():
            for told in (moved_up(form), moved_down(form)):
                self.assertIs(type(told), list)
                self.assertTrue(is_form(told))
                self.assertTrue(all(type(place) is int for place in told))

    def test_up_and_then_down_is_the_form_again(self):
        for form in SMALL + great_forms():
            self.assertEqual(moved_down(moved_up(form)), form)

    def test_the_products(self):
        for form in SMALL + great_forms():
            n = number_of(form) + 1
            m = number_of(moved_up(form)) + 1
            self.assertLess(m * m, m * n + n * n)
            self.assertGreater((m + 1) * (m + 1), (m + 1) * n + n * n)

    def test_moved_up_twice(self):
        for form in SMALL + great_forms():
            once = moved_up(form)
            self.assertEqual(number_of(moved_up(once)), number_of(form) + number_of(once))

    def check_sum(self, one, other):
        apart = number_of(moved_up(one)) + number_of(moved_up(other))
        together = number_of(moved_up(form_of(number_of(one) + number_of(other))))
        self.assertIn(together - apart, (-1, 0, 1))
        return together - apart

    def test_the_sum_of_two_numbers(self):
        forms = forms_below(9)
        seen = {self.check_sum(one, other) for one in forms for other in forms}
        self.assertEqual(seen, {-1, 0, 1})
        for one in great_forms():
            for other in great_forms():
                self.check_sum(one, other)

    def test_down_is_the_greatest_that_moved_up_is_no_greater(self):
        for form in SMALL + great_forms():
            number, low = number_of(form), number_of(moved_down(form))
            self.assertLessEqual(number_of(moved_up(form_of(low))), number)
            self.assertGreater(number_of(moved_up(form_of(low + 1))), number)


class HandedInTest(unittest.TestCase):
    def test_what_is_handed_in_stays_as_it_was(self):
        for form in forms_below(6) + [[7, 4, 0]] + great_forms():
            before = list(form)
            is_form(form)
            number_of(form)
            moved_up(form)
            moved_down(form)
            compared(form, [3])
            compared([3], form)
            compared(form, form)
            self.assertEqual(form, before)

    def test_what_is_refused_stays_as_it_was(self):
        plain = [thing for thing in broken_lists() if all(type(entry) is int for entry in thing)]
        for thing in plain + [[7, 4, True], ["7", "4"], [[7], [4]], [None], [7, {4: 4}]]:
            before = copy.deepcopy(thing)
            self.assertIs(is_form(thing), False)
            for ask in (number_of, moved_up, moved_down):
                self.assertRaises(NoForm, ask, thing)
            self.assertRaises(NoForm, compared, thing, [3])
            self.assertRaises(NoForm, compared, [3], thing)
            self.assertEqual(thing, before)

    def test_a_told_form_is_new_and_the_askers_own(self):
        for form in [[], [0], [1], [7, 4, 0], [7, 4, 1], [999]]:
            for ask in (moved_up, moved_down):
                before = list(form)
                told = ask(form)
                self.assertIsNot(told, form)
                right = list(told)
                told.append("mine")
                told[0] = "mine"
                self.assertEqual(form, before)
                self.assertEqual(ask(form), right)
                self.assertIsNot(ask(form), ask(form))

    def test_a_list_changed_by_the_asker_is_asked_anew(self):
        form = [7, 4, 0]
        self.assertEqual((number_of(form), moved_up(form), compared(form, [8])), (43, [8, 5, 1], -1))
        form[0] = 9
        self.assertEqual((number_of(form), moved_up(form), compared(form, [8])), (98, [10, 5, 1], 1))
        form.append(0)
        self.assertIs(is_form(form), False)
        self.assertRaises(NoForm, number_of, form)


class RefusalTest(unittest.TestCase):
    def test_functions_of_one_form(self):
        for ask in (number_of, moved_up, moved_down):
            for thing in no_forms():
                with self.subTest(ask=ask.__name__, kind=type(thing)):
                    self.assertRaises(NoForm, ask, thing)

    def test_compared_on_either_side(self):
        for thing in no_forms():
            for form in ([], [0], [7, 4, 0], [999]):
                with self.subTest(kind=type(thing), form=form):
                    self.assertRaises(NoForm, compared, thing, form)
                    self.assertRaises(NoForm, compared, form, thing)

    def test_compared_on_both_sides(self):
        for thing in no_forms():
            with self.subTest(kind=type(thing)):
                self.assertRaises(NoForm, compared, thing, thing)


class ArgumentNamesTest(unittest.TestCase):
    def test_names_of_the_arguments(self):
        self.assertIs(is_form(thing=[]), True)
        self.assertEqual(form_of(number=43), [7, 4, 0])
        self.assertEqual(number_of(form=[7, 4, 0]), 43)
        self.assertEqual(compared(one=[0], other=[1]), -1)
        self.assertEqual(moved_up(form=[0]), [1])
        self.assertEqual(moved_down(form=[1]), [0])


if __name__ == "__main__":
    unittest.main()
