"""Pages: those that are asked are kept, as many as there is room for."""


def misses(room, asks):
    """The numbers of the asks that miss by the first rule: the page asked longest ago goes."""
    # By their last asks, that of the first longest ago.
    kept = []
    missed = []
    for at, page in enumerate(asks):
        if page in kept:
            kept.remove(page)
        else:
            missed.append(at)
        kept.append(page)
        if len(kept) > room:
            del kept[0]
    return missed


def next_asks(asks):
    """For each ask the number of the next one of its page; where there is none, how many asks there are."""
    later = {}
    told = []
    for at in range(len(asks) - 1, -1, -1):
        told.append(later.get(asks[at], len(asks)))
        later[asks[at]] = at
    return told[::-1]


def farthest_page(kept):
    """Of kept pages the one whose next ask is farthest off, of several the least."""
    return min(list(kept), key=lambda page: (-kept[page], page))


def misses_ahead(room, asks):
    """The numbers of the asks that miss by the second rule: the page asked again last goes."""
    # For each kept page the number of its next ask.
    kept = {}
    missed = []
    for at, (page, coming) in enumerate(zip(asks, next_asks(asks))):
        if page not in kept:
            missed.append(at)
            if len(kept) == room:
                del kept[farthest_page(kept)]
        kept[page] = coming
    return missed


def stretches(room, asks):
    """The numbers of the asks with which stretches of at most room unlike pages begin."""
    begins = []
    had = {}
    for at, page in enumerate(asks):
        if at == 0 or (page not in had and len(had) == room):
            begins.append(at)
            had = {}
        had[page] = True
    return begins


def worst_asks(room, size):
    """The asks of which the first rule misses each, in size stretches."""
    return [at % (room + 1) for at in range(room * size)]
