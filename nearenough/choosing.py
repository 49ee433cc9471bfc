"""Choosing: few of several sets, so that they have all things together."""

from nearenough.errors import Lacking
from nearenough.fractions import harmonic, over_one_bottom


def lacking_things(many, sets, numbers):
    """The rising list of those of so many things that none of the numbered sets has."""
    had = {thing: True for number in numbers for thing in sets[number]}
    return [thing for thing in range(many) if thing not in had]


def choose_by_new(many, sets):
    """The tuple (choice, shares) that the rule tells; refused with Lacking where a thing is in no set."""
    lacking = lacking_things(many, sets, list(range(len(sets))))
    if lacking:
        raise Lacking(lacking[0])
    shares = {}
    choice = []
    while len(shares) < many:
        new = [[thing for thing in things if thing not in shares] for things in sets]
        lengths = [len(things) for things in new]
        most = max(lengths)
        best = lengths.index(most)
        choice.append(best)
        shares.update({thing: (1, most) for thing in new[best]})
    return (choice, [shares[thing] for thing in range(many)])


def is_choice(many, sets, numbers):
    """Whether the numbers are unlike ones of sets that together have all things."""
    if not all([0 <= number < len(sets) for number in numbers]):
        return False
    return len(set(numbers)) == len(numbers) and not lacking_things(many, sets, numbers)


def are_payable(sets, tops, bottom):
    """Whether each set's shares, tops over one bottom, are within the harmonic number of its length."""
    for things in sets:
        most = harmonic(len(things))
        if sum([tops[thing] for thing in things]) * most[1] > most[0] * bottom:
            return False
    return True


def lets_choice(many, sets, choice, shares):
    """Whether the paper shows that no choice has fewer sets by more than the told factor."""
    if not is_choice(many, sets, choice) or len(shares) != many:
        return False
    tops, bottom = over_one_bottom(shares)
    if any([top < 0 for top in tops]) or sum(tops) != len(choice) * bottom:
        return False
    return are_payable(sets, tops, bottom)


def worst_choice(size):
    """The tuple (many, sets, other) where the rule chooses size sets, and other are two."""
    lengths = [2]
    while len(lengths) < size:
        lengths.append(2 * lengths[-1])
    sets = []
    many = 0
    for length in lengths[::-1]:
        sets.append(list(range(many, many + length)))
        many += length
    sets.append(list(range(0, many, 2)))
    sets.append(list(range(1, many, 2)))
    return (many, sets, [size, size + 1])
