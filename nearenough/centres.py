"""Centres: so many places of roads, such that no place is far from its nearest one."""


def nearest_road(roads, centres, place):
    """The road from the place to its nearest centre."""
    return min([roads[place][centre] for centre in centres])


def reach_of(roads, centres):
    """The greatest road from any place to its nearest centre."""
    return max([nearest_road(roads, centres, place) for place in range(len(roads))])


def next_centre(roads, centres):
    """Of the places that are no centre the farthest from all centres, of several the least."""
    others = [place for place in range(len(roads)) if place not in centres]
    return max(others, key=lambda place: nearest_road(roads, centres, place))


def centres_apart(roads, many):
    """The tuple (centres, apart) that the rule tells for so many centres."""
    centres = [0]
    while len(centres) < min(many, len(roads)):
        centres.append(next_centre(roads, centres))
    if reach_of(roads, centres) == 0:
        return (centres, [])
    return (centres, centres + [next_centre(roads, centres)])


def are_unlike_places(roads, many, places):
    """Whether the places are so many unlike ones of the roads."""
    if len(places) != many or len(set(places)) != many:
        return False
    return all([0 <= place < len(roads) for place in places])


def lets_centres(roads, many, centres, apart):
    """Whether the paper shows that no so many centres have less than half the reach."""
    # Without a centre there is no reach.
    if not centres or not are_unlike_places(roads, many, centres):
        return False
    reach = reach_of(roads, centres)
    if reach == 0:
        return True
    if not are_unlike_places(roads, many + 1, apart):
        return False
    return all([roads[one][other] >= reach for one in apart for other in apart if one != other])


def worst_road(one, other):
    """The road between two places of the worst case, which stand together by threes."""
    if one // 3 == other // 3:
        return abs(one - other)
    return 100


def worst_centres(size):
    """The tuple (roads, other) where the rule's reach is twice that of the other centres."""
    places = list(range(3 * size))
    roads = [[worst_road(one, other) for other in places] for one in places]
    return (roads, list(range(1, 3 * size, 3)))
