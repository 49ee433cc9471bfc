"""Pieces: points of a web that hang together, and the moats that grow around them."""

from nearenough.fractions import fraction


def least_led_to(web, numbers):
    """For each point the least point to which the numbered ties lead from it."""
    many, ties = web
    least = list(range(many))
    for at in numbers:
        low, high = sorted([least[end] for end in ties[at]])
        least = [low if own == high else own for own in least]
    return least


def are_within_weights(web, weights, areas, widths):
    """Whether the widths of the areas that have just one end of a tie come to no more than its weight, for each."""
    ties = web[1]
    left = list(weights)
    for points, width in zip(areas, widths):
        inside = {point: True for point in points}
        for at, (one, other) in enumerate(ties):
            if (one in inside) != (other in inside):
                left[at] -= width
    return all([still >= 0 for still in left])


class Pieces:
    """The pieces of a web by the ties taken so far, those that were, too, numbered as they came.

    Widths are whole numbers of parts; parts is how many of these are 1.
    """

    def __init__(self, web, weights):
        many, ties = web
        self.ties = list(ties)
        self.weights = list(weights)
        self.parts = 1
        self.taken = []
        self.points = [[point] for point in range(many)]
        self.widths = [0] * many
        # For each piece the widths of all pieces that lie within it, its own, too.
        self.paid = [0] * many
        # For each point the widths of all pieces that have it.
        self.around = [0] * many
        self.piece_of = list(range(many))

    def growing_beside(self, at, growing):
        """How many growing pieces have just one of the ends of the tie."""
        one, other = [self.piece_of[end] for end in self.ties[at]]
        if one == other:
            return 0
        return len([piece for piece in (one, other) if piece in growing])

    def left_between(self, at):
        """What the widths lack till the tie is full, of a tie between two pieces."""
        # No piece has both ends so far, so that each one around an end counts.
        one, other = self.ties[at]
        return self.weights[at] * self.parts - self.around[one] - self.around[other]

    def first_full(self, growing):
        """The first full tie between two pieces of which one at least is growing, or None."""
        for at in range(len(self.ties)):
            if self.growing_beside(at, growing) > 0 and self.left_between(at) <= 0:
                return at
        return None

    def take(self, at):
        """Takes the tie, by which two pieces become a new one."""
        one, other = [self.piece_of[end] for end in self.ties[at]]
        joined = sorted(self.points[one] + self.points[other])
        for point in joined:
            self.piece_of[point] = len(self.points)
        self.points.append(joined)
        self.widths.append(0)
        self.paid.append(self.paid[one] + self.paid[other])
        self.taken.append(at)

    def halve_parts(self):
        """Makes two parts of each, so that two growing pieces meet at a whole number of them."""
        self.parts *= 2
        self.widths = [2 * width for width in self.widths]
        self.paid = [2 * width for width in self.paid]
        self.around = [2 * width for width in self.around]

    def steps_to_full(self, growing):
        """By how much the growing pieces may grow till a tie beside them is full, for each such tie."""
        beside = [self.growing_beside(at, growing) for at in range(len(self.ties))]
        return [self.left_between(at) // many for at, many in enumerate(beside) if many > 0]

    def grow(self, growing, step):
        """Makes all growing pieces wider by the step."""
        for piece in growing:
            self.widths[piece] += step
            self.paid[piece] += step
            for point in self.points[piece]:
                self.around[point] += step

    def moats(self):
        """The list of tuples (points, width) of all pieces whose width is above 0, sorted by their points."""
        wide = [piece for piece, width in enumerate(self.widths) if width > 0]
        return sorted([(list(self.points[piece]), fraction(self.widths[piece], self.parts)) for piece in wide])
