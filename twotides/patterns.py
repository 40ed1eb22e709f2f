"""Patterns: which flows can sway for ever when all pipes stay open."""

from itertools import combinations
from math import lcm

from twotides.basics import is_between, is_integer, is_prices, is_tuple_of
from twotides.errors import NoPattern, NoPrices, NoRests, TooMany
from twotides.fillings import nets_by
from twotides.lists import grains_in_one, in_grains, window
from twotides.webs import free_web

MOST_WIDTHS = 64
MOST_PATTERNS = 5000
MOST_TO_SHUT = 1000


def is_pattern(web, thing):
    """Whether a thing has a flow for each pipe that the pipe can have, not all 0."""
    many = len(web.pipes)
    if not is_tuple_of(many, many, thing):
        return False
    for pipe, ran in zip(web.pipes, thing):
        if not is_between(-len(pipe[2]), len(pipe[2]), ran):
            return False
    return any([ran != 0 for ran in thing])


def check_pattern(web, pattern):
    """Refuses what is no pattern of the web."""
    if not is_pattern(web, pattern):
        raise NoPattern()


def check_widths(web):
    """Refuses a web whose widths have too great a product."""
    total = 1
    for width in web.widths:
        total *= max(width, 1)
        if total > MOST_WIDTHS:
            raise TooMany(MOST_WIDTHS)


def check_flows(web, most):
    """Refuses a web whose pipes together can have more flows than the most."""
    total = 1
    for _, _, thresholds in web.pipes:
        total *= 2 * len(thresholds) + 1
        if total > most:
            raise TooMany(most)


def share(width, many):
    """How many grains, so many of which are 1, a measure makes of a vessel's level; none of a sea's."""
    return many // width if width > 0 else 0


def shares_of(web):
    """A number of grains in 1 that does for all widths, and with it the share of each vessel."""
    many = 1
    for width in web.widths:
        many = lcm(many, max(width, 1))
    return many, [share(width, many) for width in web.widths]


def leeways(web, many, shares, pattern):
    """For each pipe how far its ends may be apart to have its flow, or None if one cannot have it.

    A vessel's place is its level less half of its net by its width; places are told in half grains.
    """
    nets = nets_by(web, pattern)
    found = []
    for (one, other, thresholds), ran in zip(web.pipes, pattern):
        step = nets[one] * shares[one] - nets[other] * shares[other]
        low, high = window(in_grains(thresholds, many), ran, step, step)
        if low > high:
            return None
        # Half of the step lies in the middle of the two.
        found.append(high - low)
    return found


def least_places(web, many, shares, nets, apart):
    """The least places from 0 to 1/2, in half grains, of which no two are too far apart, or None.

    If there are places at all, there are such ones: the distances from the nearest whole numbers
    are places too, and no two of them are further apart.
    """
    places = [grains * (net % 2) for grains, net in zip(shares, nets)]
    ends = [(one, other, leeway) for (one, other, _), leeway in zip(web.pipes, apart)]
    both = [*ends, *[(other, one, leeway) for one, other, leeway in ends]]
    steady = False
    while not steady:
        steady = True
        for low, high, leeway in both:
            above = places[high] - places[low] - leeway
            if above > 0:
                if shares[low] == 0:
                    return None
                jump = 2 * shares[low]
                places[low] += (above + jump - 1) // jump * jump
                if places[low] > many:
                    return None
                steady = False
    return places


def standing_of(web, pattern):
    """As standing, of a right pattern, whatever the widths."""
    many, shares = shares_of(web)
    apart = leeways(web, many, shares, pattern)
    if apart is None:
        return None
    nets = nets_by(web, pattern)
    places = least_places(web, many, shares, nets, apart)
    if places is None:
        return None
    return tuple([(place // grains + net) // 2 if grains > 0 else 0
                  for place, grains, net in zip(places, shares, nets)])


def standing(web, pattern):
    """A filling with these flows that has the contrary ones behind a tick, or None."""
    check_pattern(web, pattern)
    check_widths(web)
    return standing_of(web, pattern)


def is_rests(web, thing):
    """Whether a thing has for each vessel an integer from 0 to its width less 1, 0 for a sea."""
    many = len(web.widths)
    if not is_tuple_of(many, many, thing):
        return False
    return all([is_between(0, max(width, 1) - 1, rest) for width, rest in zip(web.widths, thing)])


def bounds_of(web, pattern, rests):
    """As bounds, of a right pattern and right rests."""
    nets = nets_by(web, pattern)
    found = []
    for (one, other, thresholds), ran in zip(web.pipes, pattern):
        many = grains_in_one(web.widths[one], web.widths[other])
        grains, grains_other = share(web.widths[one], many), share(web.widths[other], many)
        step = nets[one] * grains - nets[other] * grains_other
        rest = rests[one] * grains - rests[other] * grains_other
        low, high = window(in_grains(thresholds, many), ran, step, step)
        least, most = -((rest - low) // many), (high - rest) // many
        found.append((least, most) if least <= most else (1, 0))
    return tuple(found)


def checked_bounds(web, pattern, rests):
    """The bounds of the pipes; refuses what is no pattern and what are no rests."""
    check_pattern(web, pattern)
    if not is_rests(web, rests):
        raise NoRests()
    return bounds_of(web, pattern, rests)


def bounds(web, pattern, rests):
    """For each pipe the least and the greatest whole number of levels that it may drop by."""
    return checked_bounds(web, pattern, rests)


def ends_of(web, pipe, sense):
    """The vessels from which and to which a pair of a ring goes; all seas are one vessel, the first."""
    one, other, _ = web.pipes[pipe]
    one, other = [web.widths.index(0) if web.widths[vessel] == 0 else vessel for vessel in (one, other)]
    return (one, other) if sense == 1 else (other, one)


def counted(told, pipe, sense):
    """What a pair of a ring counts by these bounds, which are told by pipes."""
    return told[pipe][1] if sense == 1 else -told[pipe][0]


def round_from(edges, came, vessel):
    """The ring to which the edges by which the vessels were come to lead back from a vessel."""
    for _ in came:
        vessel = edges[came[vessel]][0]
    ring = []
    at = vessel
    while not ring or at != vessel:
        start, _, _, pair = edges[came[at]]
        ring.append(pair)
        at = start
    return tuple(reversed(ring))


def barring_ring(web, told):
    """A ring over the pipes whose bounds are told that bars by these, or None."""
    edges = []
    for pipe in told:
        for sense in (1, -1):
            start, end = ends_of(web, pipe, sense)
            edges.append((start, end, counted(told, pipe, sense), (pipe, sense)))
    # The least that a way to each vessel counts; if it still gets less
    # in as many goes as there are vessels, a ring is in the way.
    sums = [0 for _ in web.widths]
    came = [None for _ in web.widths]
    lowered = None
    for _ in web.widths:
        lowered = None
        for number, (start, end, count, _) in enumerate(edges):
            if sums[start] + count < sums[end]:
                sums[end] = sums[start] + count
                came[end] = number
                lowered = end
        if lowered is None:
            return None
    return round_from(edges, came, lowered)


def bar(web, pattern, rests):
    """A ring that bars the pattern with these rests, or None."""
    return barring_ring(web, dict(enumerate(checked_bounds(web, pattern, rests))))


def is_pair(web, thing):
    """Whether a thing is a pair of a pipe and a sense."""
    if not is_tuple_of(2, 2, thing) or not is_between(0, len(web.pipes) - 1, thing[0]):
        return False
    return is_integer(thing[1]) and thing[1] in (1, -1)


def is_ring(web, thing):
    """Whether a thing is a ring: a closed way of one pair or more."""
    if not isinstance(thing, tuple) or not thing or not all([is_pair(web, pair) for pair in thing]):
        return False
    ends = [ends_of(web, pipe, sense) for pipe, sense in thing]
    return all([ends[at - 1][1] == start for at, (start, _) in enumerate(ends)])


def is_barring(web, told, thing):
    """Whether a thing is a ring over pipes whose bounds are told that bars by these."""
    if not is_ring(web, thing) or not all([pipe in told for pipe, _ in thing]):
        return False
    return sum([counted(told, pipe, sense) for pipe, sense in thing]) < 0


def is_bar(web, pattern, rests, thing):
    """Whether a thing is a ring that bars the pattern with these rests."""
    return is_barring(web, dict(enumerate(checked_bounds(web, pattern, rests))), thing)


def all_flows(web):
    """The ascending list of all tuples of flows that the pipes can have."""
    found = [()]
    for _, _, thresholds in web.pipes:
        many = len(thresholds)
        found = [(*flows, ran) for flows in found for ran in range(-many, many + 1)]
    return found


def runs(web, flows):
    """Whether these flows are a pattern that runs."""
    return any([ran != 0 for ran in flows]) and standing_of(web, flows) is not None


def patterns(web):
    """The ascending list of all patterns that run."""
    check_widths(web)
    check_flows(web, MOST_PATTERNS)
    return [flows for flows in all_flows(web) if runs(web, flows)]


def stills(web):
    """As calm_web, whatever the numbers."""
    for flows in all_flows(web):
        if runs(web, flows):
            return False
    return True


def calm_web(web):
    """Whether no pattern runs, so that all fillings come to rest."""
    check_widths(web)
    check_flows(web, MOST_PATTERNS)
    return stills(web)


def without(web, lot):
    """The web without these pipes."""
    return free_web(web.widths, tuple([pipe for number, pipe in enumerate(web.pipes) if number not in lot]))


def least_lots(web):
    """The lots of pipes without which the web is calm, and no part of which does alone, the fewest first."""
    check_widths(web)
    check_flows(web, MOST_TO_SHUT)
    found = []
    many = len(web.pipes)
    for size in range(many + 1):
        for lot in combinations(range(many), size):
            if not any([all([pipe in lot for pipe in part]) for part in found]) and stills(without(web, lot)):
                found.append(lot)
    return found


def least_shut(web):
    """The ascending list of the lots of pipes without which the web is calm, and no part of which alone does."""
    return sorted(least_lots(web))


def cheapest_shut(web, prices):
    """The least sum of prices of pipes without which the web is calm, and such a lot of pipes."""
    if not is_prices(len(web.pipes), prices):
        raise NoPrices()
    best = None
    for lot in least_lots(web):
        price = sum([prices[pipe] for pipe in lot])
        if best is None or price < best[0]:
            best = (price, lot)
    return best
