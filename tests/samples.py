"""Things that several tests hand in, and ways of reckoning that lean on nothing of the program."""

import collections
import decimal
import enum
import fractions
import itertools


class Stubborn:
    """A thing that can be neither shown, compared, measured nor walked, but would pass for the number 3."""

    def __repr__(self):
        raise RuntimeError("not to be shown")

    def __eq__(self, other):
        raise RuntimeError("not to be compared")

    def __len__(self):
        raise RuntimeError("not to be measured")

    def __iter__(self):
        raise RuntimeError("not to be walked")

    def __index__(self):
        return 3

    __hash__ = None


class Colour(enum.Enum):
    RED = 3


def other_kinds():
    """Things that are neither int nor list."""
    return [
        None, "", "0", "3", "-1", "abc", "740", "10010001", (), (0,), (3,), (7, 4, 0), {}, {3: 3}, {7: 1, 4: 1},
        set(), {3}, frozenset([7, 4, 0]), 0.0, 3.0, -1.5, float("nan"), float("inf"), 3j, b"", b"3",
        bytearray(b"\x07\x04"), range(0), range(7, 0, -3), iter([7, 4, 0]), collections.deque([7, 4, 0]),
        fractions.Fraction(3), decimal.Decimal(3), memoryview(b"3"), object(), Stubborn(), Colour.RED,
        int, list, len, Ellipsis, NotImplemented, lambda: 3, ValueError("3"), {7: 0}.keys(),
    ]


def no_numbers():
    """Things of many kinds that are no whole numbers from 0 on."""
    return [-1, -2, -43, -(10 ** 300), -(10 ** 5000), True, False, [], [0], [3], [7, 4, 0]] + other_kinds()


def broken_lists():
    """Lists that are no forms, each for a reason of its own."""
    inner = []
    inner.append(inner)
    return [
        # places side by side
        [1, 0], [2, 1], [5, 4], [999, 998], [7, 4, 3], [7, 6, 4], [9, 7, 5, 3, 1, 0],
        # a place twice
        [0, 0], [1, 1], [3, 3], [7, 4, 4], [7, 7, 4], [999, 999],
        # rising places
        [0, 1], [0, 2], [0, 4, 7], [7, 0, 4], [4, 7, 0], [3, 999],
        # a place below 0
        [-1], [-2], [0, -2], [5, -1], [7, 4, -1], [-1, -3], [-(10 ** 5000)],
        # truths
        [True], [False], [4, True], [7, 4, False], [True, False], [7, True, 0],
        # entries of other kinds
        [None], [7, None], [None, 7], [7, 4, None], [""], ["7"], ["7", "4", "0"], [7, 4, "0"], ["7", 4, 0],
        [[]], [[7]], [[7, 4, 0]], [7, [4], 0], [()], [(7,)], [7, 4, (0,)], [("join", 3)], [{}], [7, {4: 4}],
        [7.0], [7.0, 4, 0], [7, 4, 0.0], [float("nan")], [3j], [b"7"], [object()], [7, Stubborn()], [Stubborn()],
        [Colour.RED], [fractions.Fraction(7), 4, 0], [int], [range(3)], [7, set()], inner,
    ]


def no_forms():
    """Things of many kinds that are no forms."""
    return broken_lists() + [0, 1, 43, -1, 10 ** 5000, True, False] + other_kinds()


def forms_below(places):
    """All forms whose places are less than a bound, by their numbers' order."""
    if places <= 0:
        return [[]]
    return forms_below(places - 1) + [[places - 1] + rest for rest in forms_below(places - 2)]


def great_forms():
    """Forms with places up to 999."""
    return [
        [999], [999, 0], [999, 1], [998], [999, 997], [999, 500, 0], [998, 500, 1], [500, 250, 125, 60, 30, 15, 7, 3, 1],
        list(range(999, -1, -2)), list(range(998, -1, -2)), list(range(999, 1, -2)), list(range(998, 0, -2)),
        list(range(999, -1, -3)), list(range(998, -1, -5)), list(range(999, -1, -7)), list(range(999, 400, -4)) + [3],
    ]


def great_numbers():
    """Whole numbers of many sizes, all less than the member at place 1000."""
    bound = member_by_doubling(1000)
    found = [bound - 1, bound - 2, bound // 2, bound // 3, 2 ** 64, 10 ** 100]
    for base in (2, 3, 7, 10, 97):
        power = base
        while power < bound:
            found.extend([power - 1, power, power + 1])
            power = power * base
    for place in range(2, 1000, 13):
        found.extend([member_by_doubling(place) - 1, member_by_doubling(place), member_by_doubling(place) + 1])
    return found


def pair_by_doubling(n):
    """The numbers F(n) and F(n + 1) of Fibonacci's row 0, 1, 1, 2, 3, .."""
    if n == 0:
        return (0, 1)
    a, b = pair_by_doubling(n // 2)
    even, odd = a * (2 * b - a), a * a + b * b
    return (odd, even + odd) if n % 2 else (even, odd)


def member_by_doubling(place):
    """The member at a place, reckoned otherwise than by walking the row."""
    return pair_by_doubling(place + 2)[0]


def number_by_doubling(form):
    return sum(member_by_doubling(place) for place in form)


def broken_texts():
    """Texts that no form is written as, each for a reason of its own."""
    return [
        "",
        # a 0 ahead
        "00", "01", "010", "001", "0010", "000", "0" * 1000, "0" + "10" * 499,
        # two 1 side by side
        "11", "110", "011", "1011", "10110", "1101", "111", "100011", "1" * 1000, "10" * 499 + "11", "11" + "01" * 499,
        # another sign
        "2", "12", "102", "1O1", "l0", "I", "O", "a", "1a", "abc", "3", "740", "10" * 499 + "12", "10" * 499 + "1x",
        "-1", "-0", "+1", "+0", "1.0", "1_0", "0b1", "0x1", "1,0", "[7, 4, 0]", "None", "True",
        " ", " 1", "1 ", "1 0", " 0", "0 ", "\n", "1\n", "0\n", "10\n", "\n1", "1\n0", "\t1", "1\r", "0\r\n", "\x00",
        "1\x00", "0\x00", "\x0010",
        # signs that look like digits or count as such elsewhere
        "\u0661", "1\u0660", "\uff11", "\uff11\uff10", "1\u00b2", "\u00b9", "1\u0300", "\ufeff1", "1\u200b", "\ud800",
        "1\U0001d7ce", "\u2460",
    ]


def no_texts():
    """Things of many kinds that are no written forms."""
    others = [thing for thing in other_kinds() if not isinstance(thing, str)]
    things = [0, 1, 10, 10010001, -1, 10 ** 5000, True, False, b"0", b"1", b"10010001", bytearray(b"10")]
    lists = [[], ["1"], ["1", "0"], [7, 4, 0], ["10010001"], ("1", "0"), {"1": "0"}, {"1"}]
    return broken_texts() + things + lists + others


def spread(seed, many, bound):
    """So many whole numbers below a bound, always the same ones for the same seed."""
    found = []
    state = seed
    for _ in range(many):
        state = (state * 6364136223846793005 + 1442695040888963407) % 2 ** 64
        found.append((state >> 33) % bound)
    return found


def small_heaps():
    """All heaps of up to five marks at places up to 4, but for the order of their marks."""
    return [
        list(marks) for many in range(6) for marks in itertools.combinations_with_replacement(range(5), many)
    ]


def mixed_heaps():
    """Heaps of up to a hundred marks, in no order."""
    found = []
    for seed in range(40):
        found.append(spread(seed, 5 + 2 * seed, 3 + 2 * seed))
    for bound in (1, 2, 3, 5, 10, 30, 100, 1000):
        found.append(spread(bound, 100, bound))
    return found


def full_heaps():
    """Heaps of a hundred marks."""
    return [
        [0] * 100, [1] * 100, [2] * 100, [3] * 100, [7] * 100, [500] * 100, [999] * 100, [999, 0] * 50, [998, 999] * 50,
        [0, 1] * 50, [1, 0, 2, 3] * 25, list(range(100)), list(range(999, 899, -1)), list(range(0, 1000, 10)),
        list(range(50)) * 2, list(range(0, 100, 2)) + list(range(98, -2, -2)), list(range(900, 1000, 4)) * 4,
    ]


def number_of_heap(heap):
    return sum(many * member_by_doubling(place) for place, many in collections.Counter(heap).items())


def weight_of_heap(heap):
    return sum(6 + 3 * place for place in heap) - heap.count(0)


def sparse_form(number):
    """The form of a number, found by trying each place from above."""
    form, place = [], 0
    while member_by_doubling(place) <= number:
        place = place + 1
    for place in range(place, -1, -1):
        if member_by_doubling(place) <= number:
            form.append(place)
            number = number - member_by_doubling(place)
    return form


def swap(marks, go, come):
    """Changes a Counter of marks; fails where a mark that goes is not there."""
    marks.subtract(go)
    if any(marks[place] < 0 for place in go):
        raise AssertionError("%r can't go" % (go,))
    marks.update(come)


def go_and_come(step):
    word, place = step
    if word == "join":
        return [place, place + 1], [place + 2]
    if word != "split":
        raise AssertionError("%r is no word" % (word,))
    if place == 0:
        return [0, 0], [1]
    if place == 1:
        return [1, 1], [2, 0]
    return [place, place], [place + 1, place - 2]


def walk_steps(heap, row):
    """The heap behind a row of steps, falling; fails where one of them can't be done."""
    marks = collections.Counter(heap)
    for step in row:
        swap(marks, *go_and_come(step))
    return sorted(marks.elements(), reverse=True)


def walk_places(heap, places):
    """The heap behind the marks at a row of places opened, falling; fails where one of them can't be."""
    marks = collections.Counter(heap)
    for place in places:
        if place < 1:
            raise AssertionError("a mark at %r can't be opened" % (place,))
        swap(marks, [place], [0, 0] if place == 1 else [place - 1, place - 2])
    return sorted(marks.elements(), reverse=True)


def steps_tried(heap):
    """The steps of a heap, or of a Counter of its marks, found by trying each at each place."""
    marks = {place: many for place, many in collections.Counter(heap).items() if many}
    found = []
    for place in range(min(marks, default=0), max(marks, default=0) + 1):
        if marks.get(place, 0) > 1:
            found.append(("split", place))
        if marks.get(place, 0) > 0 and marks.get(place + 1, 0) > 0:
            found.append(("join", place))
    return found


def walk_by(heap, choose):
    """The row of steps that choose tells, each from the steps that can be done and how many were done already."""
    marks = collections.Counter(heap)
    row = []
    found = steps_tried(marks)
    while found:
        row.append(choose(found, len(row)))
        swap(marks, *go_and_come(row[-1]))
        found = steps_tried(marks)
    return row
