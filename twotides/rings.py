"""Rings of vessels of one width."""

from twotides.basics import is_between
from twotides.errors import NoNumber
from twotides.fillings import behind, streams
from twotides.lists import in_grains
from twotides.patterns import standing_of
from twotides.rows import check_row, flows_in, ways
from twotides.webs import Web

LEAST_IN_RING = 3
MOST_IN_RING = 12


def check_ring(width, thresholds, many):
    """Refuses what is no width, the sea, what is no list, and no number of vessels of a ring."""
    check_row(width, thresholds)
    if not is_between(LEAST_IN_RING, MOST_IN_RING, many):
        raise NoNumber()


def ring_of(width, thresholds, many):
    """As ring_web, of right arguments."""
    pipes = [(vessel, vessel + 1, thresholds) for vessel in range(many - 1)]
    return Web(tuple([width for _ in range(many)]), (*pipes, (0, many - 1, thresholds)))


def ring_web(width, thresholds, many):
    """So many vessels, a pipe from each to the next, and one from the first to the last."""
    check_ring(width, thresholds, many)
    return ring_of(width, thresholds, many)


def next_pairs(thresholds, width):
    """For each pair of flows behind one another those that may follow, the second flow being the first of these."""
    steps = in_grains(thresholds, width)
    flows = flows_in(steps)
    following = {}
    for ahead in flows:
        for ran in flows:
            following[ahead, ran] = [(ran, then) for then in flows if ways(steps, ahead, ran, then) > 0]
    return following


def starts_in(following):
    """The pairs at which a way round may start: as the contrary way does too, a flow above 0 is enough."""
    return [pair for pair in following if pair[0] > 0]


def layers_from(following, start, many):
    """The pairs that ways of 0, 1, .. many pairs lead to, each with one from which it is come to."""
    layers = [{start: None}]
    for _ in range(many):
        layer = {}
        for pair in layers[-1]:
            for then in following[pair]:
                layer[then] = pair
        layers.append(layer)
    return layers


def round_of(layers, start):
    """The flows along a way through all layers that leads back to the start."""
    pair, found = start, []
    for layer in reversed(layers[1:]):
        pair = layer[pair]
        found.append(pair[0])
    return tuple(reversed(found))


def ring_sway(width, thresholds, many):
    """Two unlike fillings of the ring web that sway, or None."""
    check_ring(width, thresholds, many)
    following = next_pairs(thresholds, width)
    for start in starts_in(following):
        layers = layers_from(following, start, many)
        if start in layers[many]:
            ran = round_of(layers, start)
            web = ring_of(width, thresholds, many)
            # The last pipe is told from the first vessel to the last one, against the way round.
            one = standing_of(web, (*ran[:-1], -ran[-1]))
            return one, behind(web, one, streams(web, one, None))
    return None


def rings_that_run(width, thresholds):
    """The ascending tuple of the numbers of vessels with which a ring has a sway that is no rest."""
    check_row(width, thresholds)
    following = next_pairs(thresholds, width)
    found = []
    for start in starts_in(following):
        layers = layers_from(following, start, MOST_IN_RING)
        found.extend([many for many in range(LEAST_IN_RING, MOST_IN_RING + 1) if start in layers[many]])
    return tuple(sorted(set(found)))
