"""Matches: ties, each with a weight, of which no two have an end in common."""

from nearenough.webs import rise_below


def match_by_weight(web, weights):
    """The tuple (match, prices) that the rule tells, a price for each point."""
    many, ties = web
    prices = [0] * many
    # Prices can't say which points are ends already: a taken tie may weigh 0.
    ends = {}
    taken = []
    for at in sorted(range(len(ties)), key=lambda number: -weights[number]):
        one, other = ties[at]
        if one not in ends and other not in ends:
            ends[one] = ends[other] = True
            prices[one] = prices[other] = weights[at]
            taken.append(at)
    return (sorted(taken), prices)


def is_match(web, numbers):
    """Whether the numbers are a rising list of ties of which no two have an end in common."""
    ties = web[1]
    if not rise_below(numbers, len(ties)):
        return False
    ends = [end for at in numbers for end in ties[at]]
    return len(set(ends)) == len(ends)


def are_enough(web, weights, prices):
    """Whether there is a price from 0 on for each point, and each tie's ends pay its weight."""
    many, ties = web
    if len(prices) != many or any([price < 0 for price in prices]):
        return False
    paid = [prices[one] + prices[other] for one, other in ties]
    return all([paid[at] >= weights[at] for at in range(len(ties))])


def lets_match(web, weights, match, prices):
    """Whether the paper shows that no match weighs more than twice as much as this one."""
    if not is_match(web, match) or not are_enough(web, weights, prices):
        return False
    return sum(prices) <= 2 * sum([weights[at] for at in match])


def worst_match(size):
    """The tuple (web, weights, other) where the other match weighs twice the rule's."""
    ties = []
    other = []
    for first in range(0, 4 * size, 4):
        other.extend([len(ties) + 1, len(ties) + 2])
        ties.extend([(first, first + 1), (first, first + 2), (first + 1, first + 3)])
    return ((4 * size, ties), [1] * len(ties), other)
