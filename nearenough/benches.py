"""Benches: jobs dealt to them, so that none has much more to do than the others."""

from nearenough.fractions import fraction, less


def dealt(jobs, benches, order):
    """The dealing of the jobs in this order, each to the bench with the least so far."""
    loads = [0] * benches
    dealing = [0] * len(jobs)
    for job in order:
        bench = loads.index(min(loads))
        dealing[job] = bench
        loads[bench] += jobs[job]
    return dealing


def deal_in_order(jobs, benches):
    """The dealing by the first rule: the jobs as they come."""
    return dealt(jobs, benches, list(range(len(jobs))))


def deal_by_length(jobs, benches):
    """The dealing by the second rule: the jobs by falling lengths, those of one length in order."""
    return dealt(jobs, benches, sorted(range(len(jobs)), key=lambda job: -jobs[job]))


def load_of(jobs, benches, dealing):
    """The greatest sum of lengths that one bench has by the dealing."""
    loads = [0] * benches
    for length, bench in zip(jobs, dealing):
        loads[bench] += length
    return max(loads)


def load_bound(jobs, benches):
    """A fraction below which no dealing has a load."""
    falling = sorted(jobs, reverse=True)
    whole = falling[0] if falling else 0
    if len(falling) > benches:
        # Of the first jobs, one more than benches, two are on one bench.
        whole = max(whole, falling[benches - 1] + falling[benches])
    even = fraction(sum(jobs), benches)
    return even if less((whole, 1), even) else (whole, 1)


def worst_in_order(benches):
    """The tuple (jobs, other) where the first rule comes to nearly twice the load of the other."""
    short = benches * (benches - 1)
    return ([1] * short + [benches], [job // benches for job in range(short + 1)])


def worst_by_length(benches):
    """The tuple (jobs, other) where the second rule comes to nearly four thirds of the other."""
    jobs = []
    for length in range(2 * benches - 1, benches, -1):
        jobs.extend([length, length])
    # The longest goes with the shortest, and so on inwards; each two are three benches long.
    other = [min(job, len(jobs) - 1 - job) for job in range(len(jobs))]
    return (jobs + [benches] * 3, other + [benches - 1] * 3)
