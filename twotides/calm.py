"""Calm books: in all their webs water runs at finitely many ticks only, whichever pipes are open."""

from twotides.basics import at_most, fraction, is_between, is_fraction, is_integer, is_tuple_of, minus, plus, times
from twotides.books import first_fault, is_sorts
from twotides.errors import NoBreach, NoSort, NoSorts, NotCalm, NotOf
from twotides.fillings import all_drops, check_filling, check_opening, streams
from twotides.ledgers import square_of
from twotides.lists import grains_in_one, measures, rounded_up
from twotides.shapes import full_web
from twotides.sways import sway_of
from twotides.webs import parts

NOTHING = (0, 1)


def is_sort_number(book, thing):
    """Whether a thing is the number of a sort."""
    return is_between(0, len(book.sorts) - 1, thing)


def check_pair(book, i, j):
    """Refuses what are no two sorts, and the sea with itself."""
    if not is_sort_number(book, i) or not is_sort_number(book, j):
        raise NoSort()
    if i == j and book.sorts[i][0] == 0:
        raise NoSort()


def part_of(sort):
    """What a sort is of a room: its cap by its width, nothing for the sea."""
    width, cap = sort
    return fraction(cap, width) if width > 0 else NOTHING


def room_of(sorts, i, j):
    """As room, of right sorts."""
    return plus(part_of(sorts[i]), part_of(sorts[j]))


def room(book, i, j):
    """The sum of the caps by the widths of two sorts."""
    check_pair(book, i, j)
    return room_of(book.sorts, i, j)


def grains_of(sorts, i, j):
    """How many grains of the widths of two sorts make 1."""
    return grains_in_one(sorts[i][0], sorts[j][0])


def onsets(thresholds, many):
    """For each flow above 0 that there is, ascending, the least drop of so many grains that has it."""
    found = []
    steps = rounded_up(thresholds, many)
    for number, step in enumerate(steps):
        if number + 1 == len(steps) or steps[number + 1] != step:
            found.append((step, number + 1))
    return found


def overshoots(space, drop, many):
    """Whether so many measures at this drop make it the contrary one, or go beyond that."""
    return 2 * drop[0] * space[1] <= many * space[0] * drop[1]


def least_breach(sorts, thresholds, join):
    """The least drop of a breach of a kind with these thresholds with this join, or None."""
    i, j = join
    space = room_of(sorts, i, j)
    # While the flow is the same, a lesser drop is the more easily overshot.
    for drop, many in onsets(thresholds, grains_of(sorts, i, j)):
        if overshoots(space, drop, many):
            return drop
    return None


def calm_kind(sorts, kind):
    """Whether a kind has no breach with any of its joins."""
    thresholds, joins = kind
    return all([least_breach(sorts, thresholds, join) is None for join in joins])


def breach(book):
    """The least breach of the book, by kind, then pair, then drop, or None."""
    for number, (thresholds, joins) in enumerate(book.kinds):
        for join in joins:
            drop = least_breach(book.sorts, thresholds, join)
            if drop is not None:
                return number, join, drop
    return None


def is_join_of(book, kind, thing):
    """Whether a thing is one of the joins of the kind with this number."""
    if not is_tuple_of(2, 2, thing) or not all([is_integer(sort) for sort in thing]):
        return False
    return thing in book.kinds[kind][1]


def is_breach(book, thing):
    """Whether a thing is a breach of the book."""
    if not is_tuple_of(3, 3, thing):
        return False
    kind, join, drop = thing
    if not is_between(0, len(book.kinds) - 1, kind) or not is_join_of(book, kind, join):
        return False
    i, j = join
    if not is_fraction(drop) or drop[0] <= 0 or grains_of(book.sorts, i, j) % drop[1] > 0:
        return False
    return overshoots(room_of(book.sorts, i, j), drop, measures(book.kinds[kind][0], drop[0], drop[1]))


def calm(book):
    """Whether the book has no breach."""
    return all([calm_kind(book.sorts, kind) for kind in book.kinds])


def calm_singly(book):
    """Whether the book is calm wherever at most one pipe is open at each tick."""
    # Then a vessel is as if it had one pipe alone.
    sorts = tuple([(width, 1) for width, _ in book.sorts])
    return all([calm_kind(sorts, kind) for kind in book.kinds])


def waters_apart(sorts, i, j, drop):
    """A water for a vessel of each of two sorts, such that the level of the first is above by the drop."""
    wide, wide_other = max(sorts[i][0], 1), max(sorts[j][0], 1)
    top, bottom = drop
    if sorts[i][0] == 0:
        return 0, -top * wide_other // bottom
    # Where the other one is the sea, no water of it does at once.
    water_other = 0
    while (top * wide_other + water_other * bottom) * wide % (bottom * wide_other) > 0:
        water_other += 1
    return (top * wide_other + water_other * bottom) * wide // (bottom * wide_other), water_other


def alike(many, thing, more, other):
    """The tuple that has one thing many times, then the other one more times."""
    return (*[thing for _ in range(many)], *[other for _ in range(more)])


def sway_web(book, thing):
    """A web of the book, told by a breach, its sorts, and two unlike fillings of it that sway."""
    if not is_breach(book, thing):
        raise NoBreach()
    kind, (i, j), drop = thing
    thresholds = book.kinds[kind][0]
    # Each vessel has as many pipes as it may, all of them to vessels of the other sort.
    # All pipes then have the same drop, and its amount never becomes less than the breach's.
    first = 1 if book.sorts[j][0] == 0 else book.sorts[j][1]
    second = 1 if book.sorts[i][0] == 0 else book.sorts[i][1]
    web = full_web(book.sorts[i][0], book.sorts[j][0], thresholds, first, second)
    water, water_other = waters_apart(book.sorts, i, j, drop)
    _, one, other = sway_of(web, alike(first, water, second, water_other))
    return web, alike(first, i, second, j), one, other


def loss_of(book):
    """As loss, of a calm book."""
    least = None
    for thresholds, joins in book.kinds:
        for i, j in joins:
            space = room_of(book.sorts, i, j)
            for drop, many in onsets(thresholds, grains_of(book.sorts, i, j)):
                lost = minus(times(2, drop), times(many, space))
                if least is None or at_most(lost, least):
                    least = lost
    return least


def loss(book):
    """The least that the square of a filling of a calm book falls by for each measure; None without kinds."""
    if not calm(book):
        raise NotCalm()
    return loss_of(book)


def check_of(book, web, sorts):
    """Refuses what is no tuple of sorts, and a web that is not of the book with them."""
    if not is_sorts(book, web, sorts):
        raise NoSorts()
    if first_fault(book, web, sorts) is not None:
        raise NotOf()


def idle_square(web, filling):
    """The least square to which the filling can come: each part without a sea keeps all its water."""
    total = NOTHING
    for part in parts(web):
        widths = [web.widths[vessel] for vessel in part]
        if 0 not in widths:
            water = sum([filling[vessel] for vessel in part])
            total = plus(total, fraction(water * water, sum(widths)))
    return total


def most_measures(book, web, sorts, filling):
    """How many measures run at most in all, whichever pipes are opened at whichever ticks."""
    if not calm(book):
        raise NotCalm()
    check_of(book, web, sorts)
    check_filling(web, filling)
    lost = loss_of(book)
    if lost is None:
        return 0
    most = minus(square_of(web, filling), idle_square(web, filling))
    return most[0] * lost[1] // (most[1] * lost[0])


def costs(book, web, sorts, filling, opening):
    """For each pipe by how much, at the least, the square falls for it in a tick."""
    check_of(book, web, sorts)
    check_filling(web, filling)
    check_opening(web, opening)
    found = []
    for pipe, (top, bottom), ran in zip(web.pipes, all_drops(web, filling), streams(web, filling, opening)):
        many = abs(ran)
        overshot = times(many, room_of(book.sorts, sorts[pipe[0]], sorts[pipe[1]]))
        found.append(times(many, minus((2 * abs(top), bottom), overshot)))
    return tuple(found)
