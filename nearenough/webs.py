"""Webs: tuples (many, ties) of points and the ties between them, and their texts."""

from nearenough.errors import NoWeb

MOST_POINTS = 60
MOST_TIES = 400
MOST_FIGURES = 12


def number_of(text):
    """The whole number that the text writes, or None where it writes none."""
    # isdigit alone would let by figures that are not ASCII.
    if not (text.isascii() and text.isdigit()):
        return None
    if len(text) > MOST_FIGURES:
        return None
    if text[0] == "0" and text != "0":
        return None
    return int(text)


def numbers_behind(word, many, row):
    """The numbers of a row that is this word and so many numbers, else None."""
    # Split at each single blank, so that a blank too many makes an empty word.
    words = row.split(" ")
    if words[0] != word or len(words) != many + 1:
        return None
    numbers = [number_of(text) for text in words[1:]]
    if None in numbers:
        return None
    return numbers


def points_told(row):
    """How many points a web's first row tells of, or None where it is no such row."""
    numbers = numbers_behind("points", 1, row)
    if numbers is None or not 1 <= numbers[0] <= MOST_POINTS:
        return None
    return numbers[0]


def tie_told(row, many):
    """The tie of two of so many points that a row tells, or None where it tells none."""
    numbers = numbers_behind("tie", 2, row)
    if numbers is None:
        return None
    one, other = numbers
    if not one < other < many:
        return None
    return (one, other)


def may_follow(ties, tie):
    """Whether the tie may stand behind those ties."""
    if len(ties) >= MOST_TIES:
        return False
    return not ties or ties[-1] < tie


def read_web(text):
    """The web that the text writes; refused with NoWeb where it writes none."""
    rows = text.split("\n")
    many = points_told(rows[0])
    if many is None:
        raise NoWeb(0)
    ties = []
    for at, row in enumerate(rows[1:], start=1):
        tie = tie_told(row, many)
        if tie is None or not may_follow(ties, tie):
            raise NoWeb(at)
        ties.append(tie)
    return (many, ties)


def shown_web(web):
    """The text that writes the web."""
    many, ties = web
    rows = [f"points {many}"] + [f"tie {one} {other}" for one, other in ties]
    return "\n".join(rows)


def ties_of(web, point):
    """The rising list of the numbers of the ties that have the point as an end."""
    return [at for at, tie in enumerate(web[1]) if point in tie]


def neighbours(web):
    """For each point the list of the points at the other ends of its ties."""
    many, ties = web
    beside = [[] for point in range(many)]
    for one, other in ties:
        beside[one].append(other)
        beside[other].append(one)
    return beside


def rise_below(numbers, many):
    """Whether the numbers rise, the first from 0 on and the last below many."""
    return all([low < high for low, high in zip([-1] + numbers, numbers + [many])])
