"""Forms added and taken away, by their places alone."""

from sparsesum.errors import TooLittle
from sparsesum.forms import compared, need_form
from sparsesum.heaps import counted, falling, put_in, settled_by, take_out


def added(one, other):
    need_form(one)
    need_form(other)
    return settled_from_above(one + other)


def taken(one, other):
    if compared(one, other) < 0:
        raise TooLittle("the form to take away has the greater number")
    counts = counted(one)
    opened = []
    for place in other:
        opened.extend(open_down_to(counts, place))
        # What is taken away goes out at once, so that no later opening uses it up.
        take_out(counts, place)
    told = settled_from_above(falling(counts))
    return (told[0], opened, told[1])


def settled_from_above(heap):
    # Two great forms settled from below may take hundreds of thousands of steps; from above, about one a place.
    return settled_by(heap, lambda found, turn: found[-1])


def open_down_to(counts, place):
    """Opens marks until there is one at the place, and tells where they were opened."""
    opened = []
    while place not in counts:
        # There is always one above. What an opening for an earlier place left over lies above this place;
        # where nothing is left over, the rest is a part of a form, and below this place alone it would be
        # less than the member here, so less than what is still to be taken away.
        nearest = min([mark for mark in counts if mark > place])
        open_mark(counts, nearest)
        opened.append(nearest)
    return opened


def open_mark(counts, place):
    take_out(counts, place)
    put_in(counts, place - 1)
    # Place 1 has but one lower neighbour, and its member is twice the member there.
    put_in(counts, place - 2 if place > 1 else 0)
