"""Case trees: why no pattern of a web runs, told case by case."""

from twotides.basics import is_between, is_tuple_of
from twotides.errors import UnlikeWidths
from twotides.lists import in_grains, window
from twotides.patterns import MOST_PATTERNS, barring_ring, check_flows, check_widths, is_barring, is_ring


def one_width(web):
    """The width of all vessels but the seas; refuses a web that has no such one."""
    widths = sorted(set([width for width in web.widths if width > 0]))
    if len(widths) != 1:
        raise UnlikeWidths()
    return widths[0]


def part_in_step(web, pipe, vessel):
    """How many grains a measure through the pipe adds to the net of a vessel by its width."""
    one, other, _ = web.pipes[pipe]
    if web.widths[vessel] == 0:
        return 0
    if vessel == one:
        return 1
    return -1 if vessel == other else 0


def steps_between(web, flows, pipe):
    """The least and the greatest step of a pipe, in grains, that the flows make; those not set are None."""
    least = most = 0
    one, other, _ = web.pipes[pipe]
    for number, ran in enumerate(flows):
        part = part_in_step(web, number, one) - part_in_step(web, number, other)
        if ran is None:
            slack = abs(part) * len(web.pipes[number][2])
            least, most = least - slack, most + slack
        else:
            least, most = least + part * ran, most + part * ran
    return least, most


def loose_bounds(web, width, flows):
    """By the pipes whose flows are set the least and the greatest drop, in grains, that they may have."""
    told = {}
    for pipe, ran in enumerate(flows):
        if ran is not None:
            least, most = steps_between(web, flows, pipe)
            low, high = window(in_grains(web.pipes[pipe][2], width), ran, least, most)
            told[pipe] = (low, high) if low <= high else (1, 0)
    return told


def with_flow(flows, pipe, ran):
    """The flows with that of a pipe set."""
    return [*flows[:pipe], ran, *flows[pipe + 1:]]


def tree_of(web, width, flows):
    """A case tree where these flows are set, None if there is none."""
    ring = barring_ring(web, loose_bounds(web, width, flows))
    if ring is not None:
        return ring
    if None not in flows:
        return None if any([ran != 0 for ran in flows]) else ()
    pipe = flows.index(None)
    many = len(web.pipes[pipe][2])
    trees = []
    for ran in range(-many, many + 1):
        tree = tree_of(web, width, with_flow(flows, pipe, ran))
        if tree is None:
            return None
        trees.append(tree)
    return pipe, tuple(trees)


def case_tree(web):
    """A case tree that tells that no pattern runs, or None."""
    width = one_width(web)
    check_widths(web)
    check_flows(web, MOST_PATTERNS)
    return tree_of(web, width, [None for _ in web.pipes])


def is_tree(web, width, flows, thing):
    """Whether a thing is a case tree where these flows are set."""
    if None not in flows and all([ran == 0 for ran in flows]):
        return is_tuple_of(0, 0, thing)
    if is_ring(web, thing):
        return is_barring(web, loose_bounds(web, width, flows), thing)
    if not is_tuple_of(2, 2, thing) or not is_between(0, len(flows) - 1, thing[0]):
        return False
    pipe, trees = thing
    many = len(web.pipes[pipe][2])
    if flows[pipe] is not None or not is_tuple_of(2 * many + 1, 2 * many + 1, trees):
        return False
    for at, tree in enumerate(trees):
        if not is_tree(web, width, with_flow(flows, pipe, at - many), tree):
            return False
    return True


def is_case_tree(web, thing):
    """Whether a thing is a case tree of the web."""
    return is_tree(web, one_width(web), [None for _ in web.pipes], thing)
