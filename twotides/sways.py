"""Sways: what comes of a filling when all pipes stay open."""

from twotides.basics import is_between, is_integer, is_tuple_of
from twotides.errors import NoNumber, TooMany
from twotides.fillings import behind, check_filling, gates_of, is_filling, run_gates, streams

MOST_TICKS = 20000
FAR_TICKS = 1000000000000000000000000000000
MOST_FILLINGS = 5000


def run_on(web, filling, most):
    """Runs till the filling sways, but so many ticks at most.

    Returns how many ticks were done, the filling then, the one behind it, and whether these sway.
    """
    gates = gates_of(web, None)
    ticks, now = 0, filling
    then, _ = run_gates(web, gates, now)
    later, _ = run_gates(web, gates, then)
    while later != now and ticks < most:
        ticks, now, then = ticks + 1, then, later
        later, _ = run_gates(web, gates, then)
    return ticks, now, then, later == now


def sway_of(web, filling):
    """As sway, of a right filling."""
    first, one, other, sways = run_on(web, filling, MOST_TICKS)
    if not sways:
        raise TooMany(MOST_TICKS)
    return first, one, other


def sway(web, filling):
    """The least number of ticks behind which the filling sways, that filling, and the one between."""
    check_filling(web, filling)
    return sway_of(web, filling)


def after(web, filling, ticks):
    """The filling behind so many ticks."""
    check_filling(web, filling)
    if not is_between(0, FAR_TICKS, ticks):
        raise NoNumber()
    done, one, other, sways = run_on(web, filling, min(ticks, MOST_TICKS))
    if ticks > MOST_TICKS and not sways:
        raise TooMany(MOST_TICKS)
    return one if (ticks - done) % 2 == 0 else other


def is_sway(web, thing):
    """Whether a thing is a pair of fillings each of which a tick leads to the other one."""
    if not is_tuple_of(2, 2, thing):
        return False
    one, other = thing
    if not is_filling(web, one) or not is_filling(web, other):
        return False
    return (behind(web, one, streams(web, one, None)) == other
            and behind(web, other, streams(web, other, None)) == one)


def check_fillings(web, high):
    """Refuses what is no integer from 0 on, and one with which there are too many fillings."""
    if not is_integer(high) or high < 0:
        raise NoNumber()
    many = 1
    for width in web.widths:
        if width > 0:
            many *= high + 1
        if many > MOST_FILLINGS:
            raise TooMany(MOST_FILLINGS)


def fillings_to(web, high):
    """The ascending list of all fillings with waters from 0 to high."""
    found = [()]
    for width in web.widths:
        most = high if width > 0 else 0
        found = [(*waters, water) for waters in found for water in range(most + 1)]
    return found


def settle(web, gates, known, start):
    """Adds to what is known, the first of sway and the sway's pair by fillings, all from the start on."""
    way = [start]
    while way[-1] not in known:
        if len(way) > 2 and way[-1] == way[-3]:
            one, other = way[-1], way[-2]
            known[one] = known[other] = (0, (min(one, other), max(one, other)))
        elif len(way) > MOST_TICKS + 3:
            raise TooMany(MOST_TICKS)
        else:
            later, _ = run_gates(web, gates, way[-1])
            way.append(later)
    first, pair = known[way[-1]]
    for filling in reversed(way):
        if filling not in known:
            first += 1
            known[filling] = (first, pair)


def settled(web, high):
    """The ascending list of triples of each filling to high, its first of sway, and the sway's pair."""
    check_fillings(web, high)
    gates, known, found = gates_of(web, None), {}, []
    for start in fillings_to(web, high):
        settle(web, gates, known, start)
        first, pair = known[start]
        if first > MOST_TICKS:
            raise TooMany(MOST_TICKS)
        found.append((start, first, pair))
    return found


def basins(web, high):
    """For each sway how many of the fillings with waters from 0 to high come to it."""
    counts = {}
    for _, _, pair in settled(web, high):
        counts[pair] = counts.get(pair, 0) + 1
    return counts


def latest(web, high):
    """The greatest first of sway among these fillings, and the least of them that has it."""
    best, late = -1, None
    for filling, first, _ in settled(web, high):
        if first > best:
            best, late = first, filling
    return best, late
