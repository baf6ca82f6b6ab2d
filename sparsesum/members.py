"""The row of members, 1, 2, 3, 5, 8 and so on, with places counted from 0."""

from sparsesum.errors import NoNumber


def is_whole(thing):
    # Python counts True and False among its ints; here they are no numbers.
    return isinstance(thing, int) and not isinstance(thing, bool) and thing >= 0


def need_whole(thing):
    # The thing is not shown: not everything can be turned into a text, a very long number for one.
    if not is_whole(thing):
        raise NoNumber("not a whole number from 0 on")


def member(place):
    need_whole(place)
    return members(place + 1)[place]


def members(many):
    need_whole(many)
    row = [1, 2]
    while len(row) < many:
        row.append(row[-1] + row[-2])
    return row[:many]
