"""Tours: ways through all places and back, by roads between each two of them."""

from nearenough.webs import neighbours

MOST_PLACES = 40
LONGEST_ROAD = 10 ** 12


def is_square(thing):
    """Whether there are 1 to 40 lists, each with as many things as there are lists."""
    many = len(thing)
    return 1 <= many <= MOST_PLACES and all([len(row) == many for row in thing])


def are_lengths(roads):
    """Whether all roads are neither too short nor too long, and 0 from a place to itself."""
    if not all([0 <= road <= LONGEST_ROAD for row in roads for road in row]):
        return False
    return all([row[place] == 0 for place, row in enumerate(roads)])


def are_alike_both_ways(roads):
    """Whether each road is as long one way as the other."""
    places = list(range(len(roads)))
    return all([roads[one][other] == roads[other][one] for one in places for other in places])


def are_straight(roads):
    """Whether no road is longer than two that lead by a third place."""
    places = list(range(len(roads)))
    for start in roads:
        for third in places:
            so_far = start[third]
            if any([start[end] > so_far + roads[third][end] for end in places]):
                return False
    return True


def are_roads(thing):
    """Whether a list of lists of whole numbers is roads."""
    return is_square(thing) and are_lengths(thing) and are_alike_both_ways(thing) and are_straight(thing)


def length_of(roads, tour):
    """How long the tour is, from the last place back to the first too."""
    # The place ahead of the first is the last one, by the index -1.
    return sum([roads[tour[at - 1]][tour[at]] for at in range(len(tour))])


def grown_tree(roads):
    """The tree grown from place 0, by the shortest road each time."""
    inside = [0]
    outside = list(range(1, len(roads)))
    tree = []
    while outside:
        shortest = min([(roads[place][new], place, new) for place in inside for new in outside])
        place, new = shortest[1], shortest[2]
        tree.append((place, new))
        inside.append(new)
        outside.remove(new)
    return tree


def tour_down(many, tree):
    """The tour from 0 down a tree of so many places, by their numbers."""
    hung = [[] for place in range(many)]
    for place, new in tree:
        hung[place].append(new)
    tour = []
    waiting = [0]
    while waiting:
        place = waiting.pop()
        tour.append(place)
        # The least waits at the end, so that it and all below it come first.
        waiting.extend(sorted(hung[place], reverse=True))
    return tour


def tour_by_tree(roads):
    """The tuple (tour, tree) that the rule tells."""
    tree = grown_tree(roads)
    return (tour_down(len(roads), tree), tree)


def joins_two(pair, many):
    """Whether the pair is of two unlike places of so many."""
    return len(pair) == 2 and pair[0] != pair[1] and all([0 <= place < many for place in pair])


def longest_on_way(roads, beside, start):
    """For each place that the tree leads to from start, the longest road on the way there."""
    longest = {start: 0}
    waiting = [start]
    while waiting:
        place = waiting.pop()
        for new in beside[place]:
            if new not in longest:
                longest[new] = max(longest[place], roads[place][new])
                waiting.append(new)
    return longest


def is_shortest_tree(roads, tree):
    """Whether the tree holds all places together and no road is shorter than one on its way."""
    many = len(roads)
    if len(tree) != many - 1 or not all([joins_two(pair, many) for pair in tree]):
        return False
    beside = neighbours((many, tree))
    if len(longest_on_way(roads, beside, 0)) != many:
        return False
    for start in range(many):
        longest = longest_on_way(roads, beside, start)
        if any([roads[start][end] < longest[end] for end in range(many)]):
            return False
    return True


def lets_tour(roads, tour, tree):
    """Whether the paper shows that no tour is less than half as long as this one."""
    if sorted(tour) != list(range(len(roads))) or not is_shortest_tree(roads, tree):
        return False
    return length_of(roads, tour) <= 2 * sum([roads[one][other] for one, other in tree])


def worst_road(around, one, other):
    """The road between two places of the worst case, in which so many stand around place 0."""
    if one == other:
        return 0
    if one == 0 or other == 0 or abs(one - other) in (2, around - 2):
        return 1
    return 2


def worst_tour(size):
    """The tuple (roads, other) where the rule's tour is nearly twice as long as the other."""
    around = 2 * size + 3
    places = list(range(around + 1))
    roads = [[worst_road(around, one, other) for other in places] for one in places]
    # So many stand around, an odd number, that steps of 2 come to each of them.
    return (roads, [0] + list(range(1, around + 1, 2)) + list(range(2, around, 2)))
