"""Heaps: lists of places in any order, and the steps that settle them."""

from sparsesum.errors import NoStep


def weight(heap):
    return sum([mark_weight(place) for place in heap])


def mark_weight(place):
    return 5 if place == 0 else 6 + 3 * place


def steps(heap):
    return steps_among(counted(heap))


def done(heap, step):
    if step not in steps(heap):
        raise NoStep("the heap does not have the marks that go")
    counts = counted(heap)
    do_step(counts, step)
    return falling(counts)


def settled(heap, picks=None):
    numbers = [] if picks is None else picks
    return settled_by(heap, lambda found, turn: found[numbers[turn] % len(found) if turn < len(numbers) else 0])


def settled_by(heap, choose):
    """Settles a heap by the steps that choose tells, from those that can be done and how many were done already."""
    counts = counted(heap)
    row = []
    found = steps_among(counts)
    while found:
        step = choose(found, len(row))
        do_step(counts, step)
        row.append(step)
        found = steps_among(counts)
    return (falling(counts), row)


def counted(heap):
    """How many marks a heap has at each of its places; a place without marks is not in it."""
    counts = {}
    for place in heap:
        put_in(counts, place)
    return counts


def falling(counts):
    heap = []
    for place in sorted(counts, reverse=True):
        heap.extend([place] * counts[place])
    return heap


def put_in(counts, place):
    counts[place] = counts.get(place, 0) + 1


def take_out(counts, place):
    counts[place] = counts[place] - 1
    # Whoever asks whether a mark is there asks for its place alone.
    if counts[place] == 0:
        counts.pop(place)


def steps_among(counts):
    found = []
    for place in sorted(counts):
        if counts[place] >= 2:
            found.append(("split", place))
        if place + 1 in counts:
            found.append(("join", place))
    return found


def do_step(counts, step):
    for place in marks_that_go(step):
        take_out(counts, place)
    for place in marks_that_come(step):
        put_in(counts, place)


def marks_that_go(step):
    place = step[1]
    if step[0] == "join":
        return [place, place + 1]
    return [place, place]


def marks_that_come(step):
    place = step[1]
    if step[0] == "join":
        return [place + 2]
    if place == 0:
        return [1]
    if place == 1:
        return [2, 0]
    return [place + 1, place - 2]
