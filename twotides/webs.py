"""Webs: vessels that are joined by pipes."""

from twotides.basics import is_between, is_tuple_of
from twotides.errors import BadWeb, TooLarge
from twotides.lists import is_list, is_width

MOST_VESSELS = 12
MOST_PIPES = 36
MOST_RENAMED = 7


def is_widths(thing):
    """Whether a thing is a tuple of widths as a web has."""
    return is_tuple_of(1, MOST_VESSELS, thing) and all([is_width(width) for width in thing])


def is_pipe(vessels, thing):
    """Whether a thing is a pipe between two of so many vessels."""
    if not is_tuple_of(3, 3, thing):
        return False
    one, other, thresholds = thing
    return is_between(0, vessels - 1, other) and is_between(0, other - 1, one) and is_list(thresholds)


class Web:
    """Vessels, each with a width, and the pipes that join them."""

    def __init__(self, widths, pipes):
        if not is_widths(widths):
            raise BadWeb("widths")
        if not is_tuple_of(0, MOST_PIPES, pipes):
            raise BadWeb("pipes")
        for number, pipe in enumerate(pipes):
            if not is_pipe(len(widths), pipe):
                raise BadWeb(number)
        self.widths = widths
        self.pipes = pipes

    def __eq__(self, other):
        return isinstance(other, Web) and self.widths == other.widths and self.pipes == other.pipes


def free_web(widths, pipes):
    """A web whose parts are right but for their number, which is bounded only where a Web is constructed."""
    web = Web((1,), ())
    web.widths = widths
    web.pipes = pipes
    return web


def merged(roots, one, other):
    """The roots when the parts of two vessels are one part, whose root is the lesser one."""
    kept = min(roots[one], roots[other])
    gone = max(roots[one], roots[other])
    return [kept if root == gone else root for root in roots]


def part_roots(web):
    """For each vessel the least vessel of its part."""
    roots = list(range(len(web.widths)))
    for one, other, _ in web.pipes:
        roots = merged(roots, one, other)
    return roots


def parts(web):
    """The ascending list of the tuples of vessels that hang together."""
    lots = {}
    # Going up the vessels, each part is met first at its least vessel.
    for vessel, root in enumerate(part_roots(web)):
        lots.setdefault(root, []).append(vessel)
    return [tuple(lots[root]) for root in lots]


def is_ringless(web):
    """Whether no pipes of a web are side by side, nor make a ring."""
    roots = list(range(len(web.widths)))
    for one, other, _ in web.pipes:
        if roots[one] == roots[other]:
            return False
        roots = merged(roots, one, other)
    return True


def pipe_counts(web):
    """For each vessel the number of pipes at it."""
    counts = [0 for _ in web.widths]
    for one, other, _ in web.pipes:
        counts[one] += 1
        counts[other] += 1
    return counts


def lists_between(web):
    """For each pair of joined vessels, the lesser one first, the sorted lists of their pipes."""
    between = {}
    for one, other, thresholds in web.pipes:
        between[one, other] = sorted([*between.get((one, other), []), thresholds])
    return between


def joins_alike(between, between_others, names, name):
    """Whether the next vessel, so renamed, is joined to the renamed ones as its name is to theirs."""
    for vessel, named in enumerate(names):
        mine = between.get((vessel, len(names)), [])
        if mine != between_others.get((min(named, name), max(named, name)), []):
            return False
    return True


def least_names(one, other):
    """As renaming, of webs with equal numbers of vessels: the names are tried from the least on."""
    between, between_others = lists_between(one), lists_between(other)
    tried = [()]
    while tried:
        names = tried.pop()
        if len(names) == len(one.widths):
            return names
        width = one.widths[len(names)]
        free = [name for name, wide in enumerate(other.widths) if wide == width and name not in names]
        fitting = [name for name in free if joins_alike(between, between_others, names, name)]
        for name in reversed(fitting):
            tried.append((*names, name))
    return None


def renaming(one, other):
    """The least tuple of new names for one's vessels with which it has the other's pipes, or None."""
    if max(len(one.widths), len(other.widths)) > MOST_RENAMED:
        raise TooLarge(MOST_RENAMED)
    if len(one.widths) != len(other.widths):
        return None
    return least_names(one, other)
