"""The desk: it keeps webs by names, and answers rows of words with texts."""

from nearenough.benches import deal_by_length, deal_in_order, load_bound, load_of
from nearenough.boxes import fewest, fill_first, fill_last
from nearenough.covers import cover_by_price
from nearenough.errors import NoName, NoRow, NoWeb
from nearenough.matches import match_by_weight
from nearenough.pages import misses, misses_ahead, stretches
from nearenough.sacks import pack
from nearenough.sides import sides_by_turns
from nearenough.webs import number_of, read_web, shown_web

LONGEST_NAME = 8
MOST_BENCHES = 20
MOST_JOBS = 60
MOST_SIZES = 200
MOST_THINGS = 100
MOST_PAGES = 20
MOST_ASKS = 400


def number_told(word):
    """The number that a word writes; refused with NoRow where it writes none."""
    number = number_of(word)
    if number is None:
        raise NoRow(f"no number: {word}")
    return number


def parts_told(word):
    """The parts of a word that is a list."""
    return [] if word == "-" else word.split(",")


def numbers_told(word):
    """The list of numbers that a word writes."""
    return [number_told(part) for part in parts_told(word)]


def pairs_told(word, sign):
    """The list of tuples of two numbers that a word writes, with the sign between the two."""
    pairs = []
    for part in parts_told(word):
        numbers = [number_told(text) for text in part.split(sign)]
        if len(numbers) != 2:
            raise NoRow(f"not two numbers: {part}")
        pairs.append((numbers[0], numbers[1]))
    return pairs


def sides_told(word):
    """The sides that a word writes; refused with NoRow where a sign is neither 0 nor 1."""
    if not all([sign in "01" for sign in word]):
        raise NoRow(f"no sides: {word}")
    return [int(sign) for sign in word]


def is_name(word):
    """Whether the word is one to eight small letters."""
    return len(word) <= LONGEST_NAME and word.isascii() and word.isalpha() and word.islower()


def web_told(name, points, ties):
    """The web that the words of a row tell."""
    if not is_name(name):
        raise NoRow(f"no name: {name}")
    web = (number_told(points), pairs_told(ties, "-"))
    # Read again from its text, since reading refuses all that is no web.
    try:
        return read_web(shown_web(web))
    except NoWeb:
        raise NoWeb(0) from None


def shown_numbers(numbers):
    """The numbers with a blank between, none as -."""
    return " ".join([str(number) for number in numbers]) if numbers else "-"


def shown_fraction(part):
    """The fraction's top, and where its bottom is above 1 that, too."""
    top, bottom = part
    return f"{top}" if bottom == 1 else f"{top}/{bottom}"


def need(holds):
    """Refuses with NoRow numbers and lists that are beyond what is told."""
    # Weights, lengths and worths can't be: twelve figures do not write too much.
    if not holds:
        raise NoRow("beyond what is told")


def cover_row(web, weights):
    """The answer to a cover row."""
    need(len(weights) == web[0])
    cover, prices = cover_by_price(web, weights)
    return f"{shown_numbers(cover)} | {shown_numbers(prices)}"


def match_row(web, weights):
    """The answer to a match row."""
    need(len(weights) == len(web[1]))
    match, prices = match_by_weight(web, weights)
    return f"{shown_numbers(match)} | {shown_numbers(prices)}"


def sides_row(web, sides):
    """The answer to a sides row."""
    need(len(sides) == web[0])
    now, turns = sides_by_turns(web, sides)
    word = "".join([str(side) for side in now])
    return f"{word} {len(turns)}"


def jobs_told(benches, jobs):
    """The tuple (benches, jobs) that two words tell."""
    many = number_told(benches)
    lengths = numbers_told(jobs)
    need(1 <= many <= MOST_BENCHES and len(lengths) <= MOST_JOBS)
    return (many, lengths)


def shown_dealing(lengths, many, dealing):
    """The dealing, its load and the bound."""
    load = load_of(lengths, many, dealing)
    return f"{shown_numbers(dealing)} | {load} {shown_fraction(load_bound(lengths, many))}"


def deal_row(benches, jobs):
    """The answer to a deal row."""
    many, lengths = jobs_told(benches, jobs)
    return shown_dealing(lengths, many, deal_in_order(lengths, many))


def dealbig_row(benches, jobs):
    """The answer to a dealbig row."""
    many, lengths = jobs_told(benches, jobs)
    return shown_dealing(lengths, many, deal_by_length(lengths, many))


def sizes_told(room, sizes):
    """The tuple (room, sizes) that two words tell."""
    most = number_told(room)
    numbers = numbers_told(sizes)
    need(1 <= most and len(numbers) <= MOST_SIZES)
    need(all([1 <= size <= most for size in numbers]))
    return (most, numbers)


def boxes_row(room, sizes):
    """The answer to a boxes row."""
    most, numbers = sizes_told(room, sizes)
    return f"{shown_numbers(fill_last(most, numbers))} | {fewest(most, numbers)}"


def boxesfirst_row(room, sizes):
    """The answer to a boxesfirst row."""
    most, numbers = sizes_told(room, sizes)
    return f"{shown_numbers(fill_first(most, numbers))} | {fewest(most, numbers)}"


def sack_row(sack, things):
    """The answer to a sack row."""
    most = number_told(sack)
    pairs = pairs_told(things, "/")
    need(1 <= most and len(pairs) <= MOST_THINGS)
    need(all([1 <= weight for worth, weight in pairs]))
    packing, price = pack(most, pairs)
    return f"{shown_numbers(packing)} | {shown_fraction(price)}"


def asks_told(room, asks):
    """The tuple (room, asks) that two words tell."""
    most = number_told(room)
    pages = numbers_told(asks)
    need(1 <= most <= MOST_PAGES and len(pages) <= MOST_ASKS)
    return (most, pages)


def pages_row(room, asks):
    """The answer to a pages row."""
    most, pages = asks_told(room, asks)
    return str(len(misses(most, pages)))


def pagesahead_row(room, asks):
    """The answer to a pagesahead row."""
    most, pages = asks_told(room, asks)
    return str(len(misses_ahead(most, pages)))


def stretches_row(room, asks):
    """The answer to a stretches row."""
    most, pages = asks_told(room, asks)
    return shown_numbers(stretches(most, pages))


# How the word behind a name is read, and what answers it.
READ_BEHIND_NAME = {"cover": numbers_told, "match": numbers_told, "sides": sides_told}
ANSWERS_OF_WEB = {"cover": cover_row, "match": match_row, "sides": sides_row}

ANSWERS = {
    "deal": deal_row,
    "dealbig": dealbig_row,
    "boxes": boxes_row,
    "boxesfirst": boxesfirst_row,
    "sack": sack_row,
    "pages": pages_row,
    "pagesahead": pagesahead_row,
    "stretches": stretches_row,
}


class Desk:
    """A keeper of webs by names."""

    def __init__(self):
        self.webs = {}

    def say(self, row):
        """The answer to a row of words; a row that is refused changes nothing."""
        # Split at each single blank, so that a blank too many makes an empty word.
        words = row.split(" ")
        if "" in words:
            raise NoRow("a blank too many")
        if words[0] == "web" and len(words) == 4:
            self.webs[words[1]] = web_told(words[1], words[2], words[3])
            return "ok"
        if words[0] in ANSWERS_OF_WEB and len(words) == 3:
            return self.answer_of_web(words[0], words[1], words[2])
        if words[0] in ANSWERS and len(words) == 3:
            answer = ANSWERS[words[0]]
            return answer(words[1], words[2])
        raise NoRow(f"no such row: {row}")

    def answer_of_web(self, word, name, told):
        """The answer to a row about the web that stands by the name."""
        # A word that is badly written is refused ahead of a name by which nothing stands.
        read = READ_BEHIND_NAME[word]
        numbers = read(told)
        if name not in self.webs:
            raise NoName(f"no web stands by the name {name}")
        answer = ANSWERS_OF_WEB[word]
        return answer(self.webs[name], numbers)
