"""Joins: ties, each with a weight, by which the two points of each wish hang together."""

from nearenough.fractions import over_one_bottom
from nearenough.parted import Parted
from nearenough.pieces import Pieces, are_within_weights, least_led_to
from nearenough.webs import rise_below


def first_parted(web, wishes, numbers):
    """The number of the first wish that the numbered ties do not join, or None."""
    least = least_led_to(web, numbers)
    for wish, (one, other) in enumerate(wishes):
        if least[one] != least[other]:
            return wish
    return None


def is_joining(web, wishes, ties):
    """Whether the numbers are a rising list of ties by which all wishes are joined."""
    return rise_below(ties, len(web[1])) and first_parted(web, wishes, ties) is None


def wanting(pieces, wishes):
    """The pieces that have just one of the two points of some wish, as keys."""
    found = {}
    for one, other in wishes:
        here, there = pieces.piece_of[one], pieces.piece_of[other]
        if here != there:
            found[here] = found[there] = True
    return found


def needed(web, wishes, taken):
    """The rising list of the taken ties without those that are thrown out, the last taken first."""
    kept = list(taken)
    for at in taken[::-1]:
        fewer = [own for own in kept if own != at]
        if first_parted(web, wishes, fewer) is None:
            kept = fewer
    return sorted(kept)


def join_by_moats(web, weights, wishes):
    """The tuple (ties, moats) that the rule tells; refused with Parted where all ties do not join a wish."""
    lost = first_parted(web, wishes, list(range(len(web[1]))))
    if lost is not None:
        raise Parted(lost)
    pieces = Pieces(web, weights)
    growing = wanting(pieces, wishes)
    while growing:
        full = pieces.first_full(growing)
        if full is None:
            pieces.halve_parts()
            pieces.grow(growing, min(pieces.steps_to_full(growing)))
        else:
            pieces.take(full)
            growing = wanting(pieces, wishes)
    return (needed(web, wishes, pieces.taken), pieces.moats())


def parts_a_wish(points, wishes):
    """Whether some wish has just one of its two points among these."""
    return any([(one in points) != (other in points) for one, other in wishes])


def lets_joining(web, weights, wishes, ties, moats):
    """Whether the paper shows that no joining weighs less than half as much as this one."""
    if not is_joining(web, wishes, ties):
        return False
    areas = [points for points, width in moats]
    if not all([rise_below(points, web[0]) and parts_a_wish(points, wishes) for points in areas]):
        return False
    widths, bottom = over_one_bottom([width for points, width in moats])
    whole = [weight * bottom for weight in weights]
    if any([width < 0 for width in widths]) or not are_within_weights(web, whole, areas, widths):
        return False
    return sum([whole[at] for at in ties]) <= 2 * sum(widths)


def wheel(size):
    """The tuple (web, weights) of a ring of so many points, each tied to one more in the middle."""
    ring = [(point, point + 1) for point in range(size - 1)] + [(0, size - 1)]
    ties = sorted(ring + [(point, size) for point in range(size)])
    return ((size + 1, ties), [1 if other == size else 2 for one, other in ties])


def to_middle(web):
    """The rising list of the numbers of the ties to the last point."""
    many, ties = web
    return [at for at, tie in enumerate(ties) if tie[1] == many - 1]


def worst_joining(size):
    """The tuple (web, weights, wishes, other) where the rule's joining weighs nearly twice the other."""
    web, weights = wheel(size)
    return (web, weights, [(0, point) for point in range(1, size)], to_middle(web))
