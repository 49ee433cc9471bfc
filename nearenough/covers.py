"""Covers: points, each with a weight, such that each tie has one of them as an end."""

from nearenough.webs import rise_below, ties_of


def cover_by_price(web, weights):
    """The tuple (cover, prices) that the rule tells, a price for each tie."""
    many, ties = web
    left = list(weights)
    prices = []
    for one, other in ties:
        price = min(left[one], left[other])
        left[one] -= price
        left[other] -= price
        prices.append(price)
    # A point of weight 0 has nothing left at the start, but covers nothing without a tie.
    cover = [point for point in range(many) if left[point] == 0 and ties_of(web, point)]
    return (cover, prices)


def is_cover(web, points):
    """Whether the points are a rising list of the web's that has an end of each tie."""
    many, ties = web
    if not rise_below(points, many):
        return False
    return all([one in points or other in points for one, other in ties])


def are_payable(web, weights, prices):
    """Whether there is a price from 0 on for each tie, none too many for a point's weight."""
    many, ties = web
    if len(prices) != len(ties) or any([price < 0 for price in prices]):
        return False
    paid = [sum([prices[at] for at in ties_of(web, point)]) for point in range(many)]
    return all([paid[point] <= weights[point] for point in range(many)])


def lets_cover(web, weights, cover, prices):
    """Whether the paper shows that no cover weighs less than half of this one."""
    if not is_cover(web, cover) or not are_payable(web, weights, prices):
        return False
    return sum([weights[point] for point in cover]) <= 2 * sum(prices)


def worst_cover(size):
    """The tuple (web, weights, other) where the rule's cover weighs twice the other."""
    many = 2 * size
    ties = [(point, point + 1) for point in range(0, many, 2)]
    return ((many, ties), [1] * many, list(range(0, many, 2)))
