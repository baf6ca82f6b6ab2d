import unittest

from sparsesum.errors import NoNumber
from sparsesum.members import member, members
from tests.samples import member_by_doubling, no_numbers

FIRST = [1, 2, 3, 5, 8, 13, 21, 34, 55, 89, 144, 233, 377, 610, 987]
AT_999 = int(
    "70330367711422815821835254877183549770181269836358732742604905087154537118196933579742249494562611733487"
    "750449241765991088186363265450223647106012053374121273867339111198139373125598767690091902245245323403501"
)


class MemberTest(unittest.TestCase):
    def test_first_members(self):
        self.assertEqual(member(0), 1)
        self.assertEqual(member(1), 2)
        self.assertEqual(member(2), 3)
        self.assertEqual([member(place) for place in range(15)], FIRST)

    def test_each_is_the_sum_of_the_two_before_it(self):
        for place in range(2, 1000):
            self.assertEqual(member(place), member(place - 1) + member(place - 2))

    def test_great_places(self):
        self.assertEqual(member(999), AT_999)
        for place in range(0, 1000, 37):
            self.assertEqual(member(place), member_by_doubling(place))

    def test_somewhat_beyond_the_bound_nothing_is_refused(self):
        for place in (1000, 1001, 1500):
            self.assertEqual(member(place), member_by_doubling(place))

    def test_tells_a_whole_number(self):
        for place in (0, 1, 2, 999):
            self.assertIs(type(member(place)), int)

    def test_refuses_what_is_no_whole_number(self):
        for thing in no_numbers():
            with self.subTest(kind=type(thing)):
                self.assertRaises(NoNumber, member, thing)


class MembersTest(unittest.TestCase):
    def test_none(self):
        self.assertEqual(members(0), [])

    def test_first_members(self):
        self.assertEqual(members(1), [1])
        self.assertEqual(members(2), [1, 2])
        self.assertEqual(members(3), [1, 2, 3])
        for many in range(16):
            self.assertEqual(members(many), FIRST[:many])

    def test_a_thousand(self):
        row = members(1000)
        self.assertEqual(len(row), 1000)
        self.assertEqual(row[:2], [1, 2])
        self.assertEqual(row[999], AT_999)
        for place in range(2, 1000):
            self.assertEqual(row[place], row[place - 1] + row[place - 2])

    def test_tells_the_same_as_member(self):
        self.assertEqual(members(1000), [member(place) for place in range(1000)])
        for many in (0, 1, 2, 3, 10, 100, 999):
            self.assertEqual(members(many), [member(place) for place in range(many)])

    def test_somewhat_beyond_the_bound_nothing_is_refused(self):
        row = members(1200)
        self.assertEqual(len(row), 1200)
        self.assertEqual(row[1199], member_by_doubling(1199))

    def test_tells_a_list_of_whole_numbers(self):
        for many in (0, 1, 2, 3, 50):
            self.assertIs(type(members(many)), list)
            self.assertTrue(all(type(entry) is int for entry in members(many)))

    def test_a_told_list_is_the_askers_own(self):
        for many in (0, 1, 2, 3, 15):
            told = members(many)
            told.append("mine")
            told[0] = "mine"
            self.assertEqual(members(many), FIRST[:many])
            self.assertEqual(member(0), 1)
            told.clear()
            self.assertEqual(members(many), FIRST[:many])
            self.assertIsNot(members(many), members(many))

    def test_refuses_what_is_no_whole_number(self):
        for thing in no_numbers():
            with self.subTest(kind=type(thing)):
                self.assertRaises(NoNumber, members, thing)

    def test_what_is_refused_stays_as_it_was(self):
        for ask in (member, members):
            thing = [7, 4, 0]
            self.assertRaises(NoNumber, ask, thing)
            self.assertEqual(thing, [7, 4, 0])

    def test_names_of_the_arguments(self):
        self.assertEqual(member(place=2), 3)
        self.assertEqual(members(many=2), [1, 2])


if __name__ == "__main__":
    unittest.main()
