"""Fees: points that hang on point 0 by ties, each with a weight, or that are paid for."""

from nearenough.fractions import over_one_bottom
from nearenough.joins import to_middle, wheel
from nearenough.pieces import Pieces, are_within_weights, least_led_to
from nearenough.webs import rise_below


def is_tree(web, ties):
    """Whether the numbers are a rising list of ties that hang on point 0 without a ring."""
    if not rise_below(ties, len(web[1])):
        return False
    # A tie brings one more point to hang on 0 at most, and none in a ring or beside what hangs there.
    return least_led_to(web, ties).count(0) == len(ties) + 1


def fees_left_out(web, fees, ties):
    """The fees, together, of the points from 1 on that are no end of the numbered ties."""
    ends = {end: True for at in ties for end in web[1][at]}
    return sum([fees[point] for point in range(1, web[0]) if point not in ends])


def cost_of_tree(web, weights, fees, ties):
    """The weights of the tree's ties and the fees of the points left out, together."""
    return sum([weights[at] for at in ties]) + fees_left_out(web, fees, ties)


def awake_pieces(pieces, slept):
    """The pieces that are, without that of point 0 and those that fell asleep, as keys, by their least points."""
    return {piece: True for piece in pieces.piece_of if piece != pieces.piece_of[0] and piece not in slept}


def left_to_pay(pieces, fees, piece):
    """What the piece lacks till it has paid the fees of its points."""
    return sum([fees[point] for point in pieces.points[piece]]) * pieces.parts - pieces.paid[piece]


def grown_pieces(web, weights, fees):
    """The tuple (pieces, slept) when none is awake any more; slept has as keys, in order, those that fell asleep."""
    pieces = Pieces(web, weights)
    slept = {}
    awake = awake_pieces(pieces, slept)
    while awake:
        full = pieces.first_full(awake)
        tired = [piece for piece in awake if left_to_pay(pieces, fees, piece) <= 0]
        if full is not None:
            pieces.take(full)
        elif tired:
            slept.update({piece: True for piece in tired})
        else:
            pieces.halve_parts()
            steps = [left_to_pay(pieces, fees, piece) for piece in awake]
            pieces.grow(awake, min(steps + pieces.steps_to_full(awake)))
        awake = awake_pieces(pieces, slept)
    return (pieces, slept)


def first_hanging(ties, numbers, areas):
    """The first area that just one of the numbered ties leaves, or None."""
    for area in areas:
        leaving = [at for at in numbers if (ties[at][0] in area) != (ties[at][1] in area)]
        if len(leaving) == 1:
            return area
    return None


def without_hanging(ties, numbers, areas):
    """What stays of the numbered ties when each area that just one leaves loses its ties, one area at a time."""
    kept = numbers
    area = first_hanging(ties, kept, areas)
    while area is not None:
        kept = [at for at in kept if ties[at][0] not in area and ties[at][1] not in area]
        area = first_hanging(ties, kept, areas)
    return kept


def tree_by_moats(web, weights, fees):
    """The tuple (ties, moats) that the rule tells."""
    ties = web[1]
    pieces, slept = grown_pieces(web, weights, fees)
    rooted = pieces.piece_of[0]
    tree = sorted([at for at in pieces.taken if pieces.piece_of[ties[at][0]] == rooted])
    areas = [{point: True for point in pieces.points[piece]} for piece in slept]
    return (without_hanging(ties, tree, areas), pieces.moats())


def are_areas(web, areas):
    """Whether each area is a rising list of one or more points from 1 on of the web."""
    return all([len(points) > 0 and points[0] > 0 and rise_below(points, web[0]) for points in areas])


def cross(one, other):
    """Whether two areas have points in common, but neither has all points of the other."""
    common = len([point for point in one if point in other])
    return common not in (0, len(one), len(other))


def are_nested(areas):
    """Whether no two areas cross."""
    unlike = {tuple(points): True for points in areas}
    so_far = []
    for points in unlike:
        area = {point: True for point in points}
        if any([cross(area, other) for other in so_far]):
            return False
        so_far.append(area)
    return True


def are_within_fees(fees, areas, widths):
    """Whether the widths of all areas within an area come to no more than the fees of its points, for each."""
    paid = {}
    for points, width in zip(areas, widths):
        paid[tuple(points)] = paid.get(tuple(points), 0) + width
    for points in paid:
        area = {point: True for point in points}
        within = [width for inner, width in paid.items() if all([point in area for point in inner])]
        if sum(within) > sum([fees[point] for point in points]):
            return False
    return True


def lets_tree(web, weights, fees, ties, moats):
    """Whether the paper shows that no tree costs less than half as much as this one."""
    areas = [points for points, width in moats]
    if not is_tree(web, ties) or not are_areas(web, areas) or not are_nested(areas):
        return False
    widths, bottom = over_one_bottom([width for points, width in moats])
    whole = [weight * bottom for weight in weights]
    dues = [fee * bottom for fee in fees]
    if any([width < 0 for width in widths]) or not are_within_weights(web, whole, areas, widths):
        return False
    if not are_within_fees(dues, areas, widths):
        return False
    return sum([whole[at] for at in ties]) + 2 * fees_left_out(web, dues, ties) <= 2 * sum(widths)


def worst_tree(size):
    """The tuple (web, weights, fees, other) where the rule's tree costs nearly twice the other."""
    web, weights = wheel(size)
    return (web, weights, [2] * size + [0], to_middle(web))
