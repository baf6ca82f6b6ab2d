"""Forms: falling lists of places, no two of them neighbours."""

from sparsesum.errors import NoForm
from sparsesum.members import is_whole, members, need_whole


def is_form(thing):
    if not isinstance(thing, list):
        return False
    if not all([is_whole(place) for place in thing]):
        return False
    return all([high - low >= 2 for high, low in zip(thing, thing[1:])])


def need_form(thing):
    if not is_form(thing):
        raise NoForm("not a falling list of places without neighbours")


def form_of(number):
    need_whole(number)
    # Two places on, a member has at least doubled, so the members at two places for each bit reach far enough.
    row = members(2 * number.bit_length())
    form = []
    left = number
    for place in range(len(row) - 1, -1, -1):
        # What is left behind the greatest member that fits is less than that member's lower neighbour.
        if row[place] <= left:
            form.append(place)
            left = left - row[place]
    return form


def number_of(form):
    need_form(form)
    if not form:
        return 0
    row = members(form[0] + 1)
    return sum([row[place] for place in form])


def compared(one, other):
    need_form(one)
    need_form(other)
    # Places below p without neighbours never reach the member at p, so the first place that differs
    # decides, and a form is less than a longer one that begins with it: just as lists are ordered.
    if one < other:
        return -1
    if one > other:
        return 1
    return 0


def moved_up(form):
    need_form(form)
    return [place + 1 for place in form]


def moved_down(form):
    need_form(form)
    return [place - 1 for place in form if place > 0]
