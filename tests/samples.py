"""Things that several tests hand in, and ways of reckoning that lean on nothing of the program."""

import collections
import decimal
import enum
import fractions


class Stubborn:
    """A thing that can be neither shown, compared, measured nor walked, but would pass for the number 3."""

    def __repr__(self):
        raise RuntimeError("not to be shown")

    def __eq__(self, other):
        raise RuntimeError("not to be compared")

    def __len__(self):
        raise RuntimeError("not to be measured")

    def __iter__(self):
        raise RuntimeError("not to be walked")

    def __index__(self):
        return 3

    __hash__ = None


class Colour(enum.Enum):
    RED = 3


def other_kinds():
    """Things that are neither int nor list."""
    return [
        None, "", "0", "3", "-1", "abc", "740", "10010001", (), (0,), (3,), (7, 4, 0), {}, {3: 3}, {7: 1, 4: 1},
        set(), {3}, frozenset([7, 4, 0]), 0.0, 3.0, -1.5, float("nan"), float("inf"), 3j, b"", b"3",
        bytearray(b"\x07\x04"), range(0), range(7, 0, -3), iter([7, 4, 0]), collections.deque([7, 4, 0]),
        fractions.Fraction(3), decimal.Decimal(3), memoryview(b"3"), object(), Stubborn(), Colour.RED,
        int, list, len, Ellipsis, NotImplemented, lambda: 3, ValueError("3"), {7: 0}.keys(),
    ]


def no_numbers():
    """Things of many kinds that are no whole numbers from 0 on."""
    return [-1, -2, -43, -(10 ** 300), -(10 ** 5000), True, False, [], [0], [3], [7, 4, 0]] + other_kinds()


def broken_lists():
    """Lists that are no forms, each for a reason of its own."""
    inner = []
    inner.append(inner)
    return [
        # places side by side
        [1, 0], [2, 1], [5, 4], [999, 998], [7, 4, 3], [7, 6, 4], [9, 7, 5, 3, 1, 0],
        # a place twice
        [0, 0], [1, 1], [3, 3], [7, 4, 4], [7, 7, 4], [999, 999],
        # rising places
        [0, 1], [0, 2], [0, 4, 7], [7, 0, 4], [4, 7, 0], [3, 999],
        # a place below 0
        [-1], [-2], [0, -2], [5, -1], [7, 4, -1], [-1, -3], [-(10 ** 5000)],
        # truths
        [True], [False], [4, True], [7, 4, False], [True, False], [7, True, 0],
        # entries of other kinds
        [None], [7, None], [None, 7], [7, 4, None], [""], ["7"], ["7", "4", "0"], [7, 4, "0"], ["7", 4, 0],
        [[]], [[7]], [[7, 4, 0]], [7, [4], 0], [()], [(7,)], [7, 4, (0,)], [("join", 3)], [{}], [7, {4: 4}],
        [7.0], [7.0, 4, 0], [7, 4, 0.0], [float("nan")], [3j], [b"7"], [object()], [7, Stubborn()], [Stubborn()],
        [Colour.RED], [fractions.Fraction(7), 4, 0], [int], [range(3)], [7, set()], inner,
    ]


def no_forms():
    """Things of many kinds that are no forms."""
    return broken_lists() + [0, 1, 43, -1, 10 ** 5000, True, False] + other_kinds()


def forms_below(places):
    """All forms whose places are less than a bound, by their numbers' order."""
    if places <= 0:
        return [[]]
    return forms_below(places - 1) + [[places - 1] + rest for rest in forms_below(places - 2)]


def great_forms():
    """Forms with places up to 999."""
    return [
        [999], [999, 0], [999, 1], [998], [999, 997], [999, 500, 0], [998, 500, 1], [500, 250, 125, 60, 30, 15, 7, 3, 1],
        list(range(999, -1, -2)), list(range(998, -1, -2)), list(range(999, 1, -2)), list(range(998, 0, -2)),
        list(range(999, -1, -3)), list(range(998, -1, -5)), list(range(999, -1, -7)), list(range(999, 400, -4)) + [3],
    ]


def great_numbers():
    """Whole numbers of many sizes, all less than the member at place 1000."""
    bound = member_by_doubling(1000)
    found = [bound - 1, bound - 2, bound // 2, bound // 3, 2 ** 64, 10 ** 100]
    for base in (2, 3, 7, 10, 97):
        power = base
        while power < bound:
            found.extend([power - 1, power, power + 1])
            power = power * base
    for place in range(2, 1000, 13):
        found.extend([member_by_doubling(place) - 1, member_by_doubling(place), member_by_doubling(place) + 1])
    return found


def pair_by_doubling(n):
    """The numbers F(n) and F(n + 1) of Fibonacci's row 0, 1, 1, 2, 3, .."""
    if n == 0:
        return (0, 1)
    a, b = pair_by_doubling(n // 2)
    even, odd = a * (2 * b - a), a * a + b * b
    return (odd, even + odd) if n % 2 else (even, odd)


def member_by_doubling(place):
    """The member at a place, reckoned otherwise than by walking the row."""
    return pair_by_doubling(place + 2)[0]


def number_by_doubling(form):
    return sum(member_by_doubling(place) for place in form)
