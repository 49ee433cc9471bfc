"""Sides: each point on side 0 or 1, so that many ties lie across."""

from nearenough.webs import neighbours


def first_to_turn(beside, sides):
    """The first point with more ties to its own side than to the other, or None."""
    for point, others in enumerate(beside):
        own = len([other for other in others if sides[other] == sides[point]])
        if own > len(others) - own:
            return point
    return None


def sides_by_turns(web, sides):
    """The tuple (sides, turns) that the rule comes to from these sides on."""
    beside = neighbours(web)
    now = list(sides)
    turns = []
    point = first_to_turn(beside, now)
    while point is not None:
        now[point] = 1 - now[point]
        turns.append(point)
        point = first_to_turn(beside, now)
    return (now, turns)


def across(web, sides):
    """How many ties have their ends on unlike sides."""
    return len([one for one, other in web[1] if sides[one] != sides[other]])


def lets_sides(web, sides):
    """Whether the sides show that at least half of all ties lie across."""
    if len(sides) != web[0] or not all([side in (0, 1) for side in sides]):
        return False
    return first_to_turn(neighbours(web), sides) is None


def worst_sides(size):
    """The tuple (web, sides, other) where half the ties lie across, and by the other all."""
    ties = []
    for first in range(0, 4 * size, 4):
        ties.extend([(first, first + 1), (first, first + 3)])
        ties.extend([(first + 1, first + 2), (first + 2, first + 3)])
    return ((4 * size, ties), [0, 0, 1, 1] * size, [0, 1, 0, 1] * size)
