"""Rests and sways with so much water, and which fillings a tick leads to a filling."""

from twotides.basics import is_integer
from twotides.cases import loose_bounds, one_width
from twotides.errors import NoNumber, NotOne, TooMany
from twotides.fillings import behind, check_filling, streams
from twotides.lists import in_grains
from twotides.patterns import MOST_PATTERNS, all_flows, check_flows, check_widths, runs
from twotides.sways import check_fillings
from twotides.webs import merged, parts

MOST_DROPS = 5000


def checked_width(web, water):
    """The one width of a web; refuses one that falls apart, has a sea or unlike widths, and what is no integer."""
    if len(parts(web)) > 1 or 0 in web.widths:
        raise NotOne()
    width = one_width(web)
    if not is_integer(water):
        raise NoNumber()
    return width


def tree_pipes(web):
    """The pipes that join what those ahead of them do not yet."""
    roots = list(range(len(web.widths)))
    found = []
    for number, (one, other, _) in enumerate(web.pipes):
        if roots[one] != roots[other]:
            roots = merged(roots, one, other)
            found.append(number)
    return found


def check_spans(tree, spans):
    """Refuses spans, a least and a greatest drop by pipes, that let the tree pipes have too many drops together."""
    total = 1
    for pipe in tree:
        low, high = spans[pipe]
        total *= high - low + 1
        if total > MOST_DROPS:
            raise TooMany(MOST_DROPS)


def tree_order(web, tree):
    """The vessels in an order in which each but the first hangs by a tree pipe at one ahead of it."""
    order = [0]
    while len(order) < len(web.widths):
        for pipe in tree:
            one, other, _ = web.pipes[pipe]
            if (one in order) != (other in order):
                order.append(other if one in order else one)
    return order


def waters_between(web, spans, order, at):
    """For the vessel at this place of the order the pairs of the place of a vessel ahead and the span between.

    The span is that of how much more water is in the vessel, all widths being the same.
    """
    found = []
    for pipe, (one, other, _) in enumerate(web.pipes):
        low, high = spans[pipe]
        if one == order[at] and other in order[:at]:
            found.append((order.index(other), low, high))
        elif other == order[at] and one in order[:at]:
            found.append((order.index(one), -high, -low))
    return found


def within(web, spans, order, water):
    """All fillings with so much water and with all drops, in waters, within the spans of their pipes."""
    many = len(order)
    rows = [(0,)]
    for at in range(1, many):
        near = waters_between(web, spans, order, at)
        later = []
        for row in rows:
            low = max([row[place] + least for place, least, _ in near])
            high = min([row[place] + most for place, _, most in near])
            later.extend([(*row, more) for more in range(low, high + 1)])
        rows = later
    places = [order.index(vessel) for vessel in range(many)]
    found = []
    for row in rows:
        first, left = divmod(water - sum(row), many)
        if left == 0:
            found.append(tuple([first + row[place] for place in places]))
    return found


def rests(web, water):
    """The ascending list of all rests with so much water in all."""
    width = checked_width(web, water)
    spans = []
    for _, _, thresholds in web.pipes:
        most = in_grains(thresholds, width)[0] - 1
        spans.append((-most, most))
    tree = tree_pipes(web)
    check_spans(tree, spans)
    return sorted(within(web, spans, tree_order(web, tree), water))


def runners(web, water):
    """The ascending list of all fillings of sways that are no rests, with so much water in all."""
    width = checked_width(web, water)
    check_widths(web)
    check_flows(web, MOST_PATTERNS)
    tree = tree_pipes(web)
    order = tree_order(web, tree)
    lots = [loose_bounds(web, width, flows) for flows in all_flows(web) if runs(web, flows)]
    for spans in lots:
        check_spans(tree, spans)
    found = []
    for spans in lots:
        found.extend(within(web, spans, order, water))
    return sorted(found)


def ahead(web, filling):
    """The ascending list of all fillings that a tick with all pipes open leads to this one."""
    check_filling(web, filling)
    check_flows(web, MOST_PATTERNS)
    found = []
    for ran in all_flows(web):
        earlier = behind(web, filling, [-many for many in ran])
        if streams(web, earlier, None) == ran:
            found.append(earlier)
    return sorted(found)


def gardens(web, high):
    """The fillings with waters from 0 to high to which no tick with all pipes open leads: there are none.

    For a filling y look at all waters x, not whole ones alone, and at half the square of x - y less what
    tide takes off for x. It grows without end on all sides, so somewhere it is least. Where a drop is
    a rounded threshold less half a grain, it has an edge that points up, so it is not least there;
    elsewhere its slope in a vessel is x - y less the net, by the width. So where it is least, x - y is
    the net of x: x is whole, and a tick leads from x to y.
    """
    check_fillings(web, high)
    check_flows(web, MOST_PATTERNS)
    return []
