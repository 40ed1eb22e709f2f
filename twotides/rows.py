"""Rows of any length, of vessels of one width."""

from twotides.basics import is_between
from twotides.errors import NoList, NoNumber, NoWidth
from twotides.lists import in_grains, is_list, is_width, window

MOST_IN_ROW = 1000000000000000000000000000000
MOST_MODULUS = 1000000000


def check_row(width, thresholds):
    """Refuses what is no width, the sea, and what is no list."""
    if not is_width(width) or width == 0:
        raise NoWidth()
    if not is_list(thresholds):
        raise NoList()


def ways(steps, ahead, ran, behind):
    """How many drops of a pipe sway, when so much runs through it and through those ahead of and behind it."""
    step = 2 * ran - ahead - behind
    low, high = window(steps, ran, step, step)
    return max(0, high - low + 1)


def flows_in(steps):
    """All flows that a pipe can have."""
    return list(range(-len(steps), len(steps) + 1))


def either_way(ahead, ran):
    """What stands for two flows behind one another and for their contraries, which have as many ways."""
    return max((ahead, ran), (-ahead, -ran))


def table_of(steps):
    """The pairs of flows behind one another, and for each the row of the ways from it to each of them."""
    flows = flows_in(steps)
    pairs = sorted(set([either_way(ahead, ran) for ahead in flows for ran in flows]))
    rows = []
    for ahead, ran in pairs:
        row = [0 for _ in pairs]
        for behind in flows:
            row[pairs.index(either_way(ran, behind))] += ways(steps, ahead, ran, behind)
        rows.append(row)
    return pairs, rows


def along(counts, rows, modulus):
    """The counts of the pairs one pipe further on."""
    return [sum([count * many for count, many in zip(counts, column)]) % modulus for column in list(zip(*rows))]


def row_count(width, thresholds, many, modulus):
    """How many fillings of the row, with 0 in the first vessel, are fillings of a sway, modulo the modulus."""
    check_row(width, thresholds)
    if not is_between(1, MOST_IN_ROW, many) or not is_between(1, MOST_MODULUS, modulus):
        raise NoNumber()
    steps = in_grains(thresholds, width)
    pairs, rows = table_of(steps)
    # Nothing runs ahead of the first pipe and behind the last one.
    starts = [either_way(0, ran) for ran in flows_in(steps)]
    counts = [starts.count(pair) % modulus for pair in pairs]
    left = many - 1
    while left > 0:
        if left % 2 == 1:
            counts = along(counts, rows, modulus)
        rows = [along(row, rows, modulus) for row in rows]
        left //= 2
    return sum([count for count, (_, ran) in zip(counts, pairs) if ran == 0]) % modulus


def shortest_row(width, thresholds):
    """The least number of vessels of a row that has a sway that is no rest, or None."""
    check_row(width, thresholds)
    steps = in_grains(thresholds, width)
    flows = flows_in(steps)
    now = [(0, ran) for ran in flows if ran != 0]
    met = {pair: True for pair in now}
    many = 1
    while now:
        many += 1
        later = sorted(set([(ran, behind) for ahead, ran in now for behind in flows
                            if ways(steps, ahead, ran, behind) > 0]))
        if any([ran == 0 for _, ran in later]):
            return many
        now = [pair for pair in later if pair not in met]
        for pair in now:
            met[pair] = True
    return None
