"""Sacks: things, each with a worth and a weight, of which so much weight may be packed."""

from nearenough.fractions import fraction, less
from nearenough.webs import rise_below


def worth_of(things, numbers):
    """What the numbered things are worth together."""
    return sum([things[number][0] for number in numbers])


def carried(sack, things):
    """The rising list of the numbers of the things that do not weigh too much by themselves."""
    return [number for number, thing in enumerate(things) if thing[1] <= sack]


def by_falling_worth(things, numbers):
    """The numbers by falling worth for weight of their things, those alike in order."""
    order = []
    for number in numbers:
        at = len(order)
        # Things are compared as fractions, for which lowest terms are not needed.
        while at > 0 and less(things[order[at - 1]], things[number]):
            at -= 1
        order.insert(at, number)
    return order


def put_in(sack, things, order):
    """The tuple (those put in, price) of the things up to the first that does not fit."""
    left = sack
    inside = []
    for number in order:
        worth, weight = things[number]
        if weight > left:
            return (inside, fraction(worth, weight))
        left -= weight
        inside.append(number)
    return (inside, (0, 1))


def pack(sack, things):
    """The tuple (packing, price) that the rule tells."""
    light = carried(sack, things)
    inside, price = put_in(sack, things, by_falling_worth(things, light))
    if light:
        best = max(light, key=lambda number: things[number][0])
        if things[best][0] > worth_of(things, inside):
            return ([best], price)
    return (sorted(inside), price)


def is_packing(sack, things, numbers):
    """Whether the numbers are a rising list of things that the sack carries together."""
    if not rise_below(numbers, len(things)):
        return False
    return sum([things[number][1] for number in numbers]) <= sack


def lets_packing(sack, things, packing, price):
    """Whether the paper shows that no packing is worth more than twice as much as this one."""
    top, bottom = price
    if top < 0 or not is_packing(sack, things, packing):
        return False
    above = [things[number][0] * bottom - top * things[number][1] for number in carried(sack, things)]
    bound = top * sack + sum([worth for worth in above if worth > 0])
    return bound <= 2 * worth_of(things, packing) * bottom


def worst_packing(size):
    """The tuple (sack, things, other) where the other packing is worth nearly twice the rule's."""
    half = (size + 1, size + 1)
    return (2 * size + 2, [(size + 3, size + 2), half, half], [1, 2])
