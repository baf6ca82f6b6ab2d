import copy
import unittest

from sparsesum.errors import NoForm, NoText
from sparsesum.texts import read, written
from tests.samples import broken_lists, forms_below, great_forms, no_forms, no_texts

SMALL = forms_below(13)
PAIRS = [
    ([], "0"), ([0], "1"), ([1], "10"), ([2], "100"), ([2, 0], "101"), ([3, 0], "1001"), ([3, 1], "1010"),
    ([7, 4, 0], "10010001"), ([7], "10000000"), ([7, 5, 3, 1], "10101010"), ([6, 4, 2, 0], "1010101"),
]


class WrittenTest(unittest.TestCase):
    def test_ordinary(self):
        for form, text in PAIRS:
            self.assertEqual(written(form), text)

    def test_the_empty_form(self):
        self.assertEqual(written([]), "0")

    def test_sign_by_sign(self):
        for form in SMALL[1:] + great_forms() + [[1200, 1000, 3]]:
            wanted = "".join("1" if place in form else "0" for place in range(form[0], -1, -1))
            self.assertEqual(written(form), wanted)

    def test_a_thousand_signs(self):
        self.assertEqual(written([999]), "1" + "0" * 999)
        self.assertEqual(written([999, 0]), "1" + "0" * 998 + "1")
        self.assertEqual(written(list(range(999, -1, -2))), "10" * 500)

    def test_tells_a_text(self):
        for form, _ in PAIRS:
            self.assertIs(type(written(form)), str)

    def test_refuses_what_is_no_form(self):
        for thing in no_forms():
            with self.subTest(kind=type(thing)):
                with self.assertRaises(NoForm) as caught:
                    written(thing)
                self.assertIs(type(caught.exception), NoForm)

    def test_what_is_handed_in_stays_as_it_was(self):
        for form in SMALL[:50] + great_forms():
            before = list(form)
            written(form)
            self.assertEqual(form, before)
        for thing in [thing for thing in broken_lists() if all(type(entry) is int for entry in thing)] + [["7"], [[7]]]:
            before = copy.deepcopy(thing)
            self.assertRaises(NoForm, written, thing)
            self.assertEqual(thing, before)


class ReadTest(unittest.TestCase):
    def test_ordinary(self):
        for form, text in PAIRS:
            self.assertEqual(read(text), form)

    def test_the_text_0(self):
        self.assertEqual(read("0"), [])

    def test_what_was_written_is_read_again(self):
        for form in SMALL + great_forms() + [[1200, 1000, 3]]:
            self.assertEqual(read(written(form)), form)

    def test_a_thousand_signs(self):
        self.assertEqual(read("1" + "0" * 999), [999])
        self.assertEqual(read("1" + "0" * 998 + "1"), [999, 0])
        self.assertEqual(read("10" * 500), list(range(999, -1, -2)))
        self.assertEqual(read("100" * 333 + "1"), list(range(999, -1, -3)))

    def test_every_short_text_of_the_two_signs(self):
        texts = {written(form) for form in forms_below(10)}
        for many in range(1, 11):
            for number in range(2 ** many):
                text = bin(2 ** many + number)[3:]
                if text in texts:
                    self.assertEqual(written(read(text)), text)
                else:
                    self.assertRaises(NoText, read, text)

    def test_another_sign_anywhere(self):
        for text in ("0", "1", "10", "10010001"):
            for index in range(len(text) + 1):
                for sign in ("2", " ", "\n", "a", "-", "\u0661", "\x00", "."):
                    self.assertRaises(NoText, read, text[:index] + sign + text[index:])
                    self.assertRaises(NoText, read, text[:index] + sign + text[index + 1:])

    def test_refuses_what_is_no_such_text(self):
        for thing in no_texts():
            with self.subTest(kind=type(thing), text=thing if isinstance(thing, str) else None):
                with self.assertRaises(NoText) as caught:
                    read(thing)
                self.assertIs(type(caught.exception), NoText)

    def test_what_is_refused_stays_as_it_was(self):
        for thing in ([], ["1", "0"], [7, 4, 0], {"1": "0"}, bytearray(b"10")):
            before = copy.deepcopy(thing)
            self.assertRaises(NoText, read, thing)
            self.assertEqual(thing, before)

    def test_tells_a_list_of_whole_numbers(self):
        for _, text in PAIRS:
            self.assertIs(type(read(text)), list)
            self.assertTrue(all(type(place) is int for place in read(text)))

    def test_a_told_list_is_the_askers_own(self):
        for form, text in PAIRS:
            told = read(text)
            told.append("mine")
            told[0] = "mine"
            self.assertEqual(read(text), form)
            self.assertIsNot(read(text), read(text))


class ArgumentNamesTest(unittest.TestCase):
    def test_names_of_the_arguments(self):
        self.assertEqual(written(form=[7, 4, 0]), "10010001")
        self.assertEqual(read(text="10010001"), [7, 4, 0])


if __name__ == "__main__":
    unittest.main()
