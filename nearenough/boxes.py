"""Boxes: things put into them, so that few boxes are begun."""


def fill_last(room, sizes):
    """The filling by the first rule: each thing into the box begun last, if it has room."""
    left = []
    filling = []
    for size in sizes:
        if not left or left[-1] < size:
            left.append(room)
        left[-1] -= size
        filling.append(len(left) - 1)
    return filling


def first_with_room(left, size):
    """The first box of which enough is left for the size, or how many boxes there are."""
    for box, still in enumerate(left):
        if still >= size:
            return box
    return len(left)


def fill_first(room, sizes):
    """The filling by the second rule: each thing into the first box that has room."""
    left = []
    filling = []
    for size in sizes:
        box = first_with_room(left, size)
        if box == len(left):
            left.append(room)
        left[box] -= size
        filling.append(box)
    return filling


def is_filling(room, sizes, boxes):
    """Whether the boxes are one for each thing, numbered as they are begun, none too full."""
    if len(boxes) != len(sizes):
        return False
    loads = []
    for size, box in zip(sizes, boxes):
        if not 0 <= box <= len(loads):
            return False
        if box == len(loads):
            loads.append(0)
        loads[box] += size
    return all([load <= room for load in loads])


def fewest(room, sizes):
    """All sizes over the room, rounded up: no filling has fewer boxes."""
    return (sum(sizes) + room - 1) // room


def worst_last(size):
    """The tuple (room, sizes, other) where the first rule has nearly twice the other's boxes."""
    other = []
    for pair in range(size):
        # All things of 1 share box 1, which is begun behind the first large thing.
        box = pair + 1 if pair > 0 else 0
        other.extend([box, 1, box, 1])
    return (2 * size + 2, [size + 1, 1] * (2 * size), other)


def worst_first(size):
    """The tuple (room, sizes, other) where the second rule has five thirds of the other's boxes."""
    many = 6 * size
    return (1000, [160] * many + [339] * many + [501] * many, list(range(many)) * 3)
