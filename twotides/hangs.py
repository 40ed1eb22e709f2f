"""Hangs: whether all ringless webs of a book come to rest, however large they are."""

from heapq import heappop, heappush

from twotides.basics import ascends, is_between, is_integer, is_tuple_of
from twotides.fillings import behind, streams
from twotides.lists import grains_in_one, in_grains, window
from twotides.patterns import share, standing_of
from twotides.webs import free_web


def may_hang(book, sort, kind):
    """Whether a kind may join a sort with some sort."""
    return any([sort in join for join in book.kinds[kind][1]])


def flows_of(book, kind):
    """All flows that a pipe of the kind can have."""
    many = len(book.kinds[kind][0])
    return list(range(-many, many + 1))


def kinds_of(book, sort):
    """The kinds that may join a sort with some sort."""
    return [kind for kind in range(len(book.kinds)) if may_hang(book, sort, kind)]


def sea_hangs(book):
    """All hangs of the sea."""
    seas = [sort for sort, (width, _) in enumerate(book.sorts) if width == 0]
    return [(sort, kind, 0, ran, 0) for sort in seas for kind in kinds_of(book, sort) for ran in flows_of(book, kind)]


def vessels_of(book):
    """All vessels (sort, rest, net), no seas, that the caps let be."""
    found = []
    for sort, (width, cap) in enumerate(book.sorts):
        if width > 0:
            most = cap * max([0, *[len(book.kinds[kind][0]) for kind in kinds_of(book, sort)]])
            found.extend([(sort, rest, net) for rest in range(width) for net in range(-most, most + 1)])
    return found


def is_hang(book, thing):
    """Whether a thing is a hang of the book."""
    if not is_tuple_of(5, 5, thing) or not all([is_integer(part) for part in thing]):
        return False
    sort, kind, rest, ran, net = thing
    if not is_between(0, len(book.sorts) - 1, sort) or not is_between(0, len(book.kinds) - 1, kind):
        return False
    width, _ = book.sorts[sort]
    if not may_hang(book, sort, kind) or not is_between(0, max(width, 1) - 1, rest):
        return False
    many = len(book.kinds[kind][0])
    return is_between(-many, many, ran) and (width > 0 or net == 0)


def fits(book, hang, vessel):
    """Whether a hang fits below a vessel."""
    sort, kind, rest, ran, net = hang
    above, rest_above, net_above = vessel
    thresholds, joins = book.kinds[kind]
    if (min(sort, above), max(sort, above)) not in joins:
        return False
    width, width_above = book.sorts[sort][0], book.sorts[above][0]
    many = grains_in_one(width, width_above)
    grains, grains_above = share(width, many), share(width_above, many)
    step = net * grains - net_above * grains_above
    low, high = window(in_grains(thresholds, many), ran, step, step)
    # The first drop from the lowest on that is a whole number from the difference of the rests.
    first = low + (rest * grains - rest_above * grains_above - low) % many
    return first <= high


def hangs_with(book, vessel, total):
    """All hangs of a vessel into which so much runs from its children."""
    sort, rest, net = vessel
    ran = net + total
    return [(sort, kind, rest, ran, net) for kind in kinds_of(book, sort) if abs(ran) <= len(book.kinds[kind][0])]


def lots_with(thing, others, most):
    """All lots of at most so many of the others, alike ones too, in which the thing is."""
    found = []
    last = [((thing,), 0)]
    for _ in range(most):
        found.extend([lot for lot, _ in last])
        last = [((*lot, others[at]), at) for lot, least in last for at in range(least, len(others))]
    return found


def total_flow(lot):
    """What runs up out of a lot of hangs."""
    return sum([hang[3] for hang in lot])


class Growth:
    """The hangs of a book, found in the order of how many vessels they take with all that hangs below them."""

    def __init__(self, book):
        self.book = book
        self.queue = []
        # For each hang met so far the fewest vessels, and the children with which it takes them.
        self.sizes = {}
        self.lots = {}
        self.found = {}
        # For each vessel, by flows, a hang with the fewest vessels that fits below it.
        self.vessels = vessels_of(book)
        self.below = {vessel: {} for vessel in self.vessels}
        # The fewest vessels of a web that sways, and its root's children.
        self.size = None
        self.root = None
        for hang in sea_hangs(book):
            self.meet(hang, 1, ())
        for vessel in self.vessels:
            for hang in hangs_with(book, vessel, 0):
                self.meet(hang, 1, ())

    def meet(self, hang, size, lot):
        """Keeps the children with which a hang takes so many vessels, if these are the fewest so far."""
        if hang not in self.sizes or size < self.sizes[hang]:
            self.sizes[hang] = size
            self.lots[hang] = lot
            heappush(self.queue, (size, hang))

    def grow(self):
        """Takes the least hang that is left, and all that comes of it."""
        _, hang = heappop(self.queue)
        if hang in self.found:
            return
        self.found[hang] = True
        for vessel in self.vessels:
            if hang[3] not in self.below[vessel] and fits(self.book, hang, vessel):
                self.below[vessel][hang[3]] = hang
                self.widen(vessel, hang)

    def widen(self, vessel, hang):
        """Takes all lots of children of the vessel in which the hang is."""
        sort, _, net = vessel
        _, cap = self.book.sorts[sort]
        for lot in lots_with(hang, list(self.below[vessel].values()), cap):
            size = 1 + sum([self.sizes[child] for child in lot])
            total = total_flow(lot)
            if len(lot) < cap:
                for above in hangs_with(self.book, vessel, total):
                    self.meet(above, size, lot)
            if total == -net and any([child[3] != 0 for child in lot]):
                if self.size is None or size < self.size:
                    self.size, self.root = size, (sort, lot)

    def goes_on(self):
        """Whether a web with fewer vessels than found so far may still be found."""
        return bool(self.queue) and (self.size is None or self.queue[0][0] + 1 < self.size)


def hang_table(book):
    """The least table of the book, or None."""
    growth = Growth(book)
    while growth.queue and growth.root is None:
        growth.grow()
    return tuple(sorted(growth.found)) if growth.root is None else None


def flows_below(book, hangs, vessel):
    """The flows of the hangs that fit below a vessel."""
    found = []
    for hang in hangs:
        if hang[3] not in found and fits(book, hang, vessel):
            found.append(hang[3])
    return found


def sums_of(flows, most):
    """For each number from 0 to the most the list of the sums of so many of the flows, alike ones too."""
    rows = [[0]]
    for _ in range(most):
        rows.append(sorted(set([total + ran for total in rows[-1] for ran in flows])))
    return rows


def keeps(book, kept, vessel):
    """Whether all hangs that a vessel comes to by hangs that are kept are kept too, and none sways below it."""
    sort, _, net = vessel
    _, cap = book.sorts[sort]
    flows = flows_below(book, kept, vessel)
    for totals in sums_of(flows, cap - 1):
        for total in totals:
            if not all([hang in kept for hang in hangs_with(book, vessel, total)]):
                return False
    some = [ran for ran in flows if ran != 0]
    return not any([-net in totals for totals in sums_of(some, cap)[1:]])


def is_hang_table(book, thing):
    """Whether a thing is a table of the book."""
    if not isinstance(thing, tuple) or not all([is_hang(book, item) for item in thing]) or not ascends(thing):
        return False
    kept = {hang: True for hang in thing}
    if not all([hang in kept for hang in sea_hangs(book)]):
        return False
    for vessel in vessels_of(book):
        if not keeps(book, kept, vessel):
            return False
    return True


def built(book, growth):
    """The web, its sorts and the flows of the pipes that a growth's root and its children make."""
    sort, lot = growth.root
    sorts, pipes, flows = [sort], [], []
    waiting = [(0, hang) for hang in lot]
    while waiting:
        above, hang = waiting.pop()
        # A child has a greater number than the vessel above, so what runs up is counted below 0.
        pipes.append((above, len(sorts), book.kinds[hang[1]][0]))
        flows.append(-hang[3])
        waiting.extend([(len(sorts), child) for child in growth.lots[hang]])
        sorts.append(hang[0])
    web = free_web(tuple([book.sorts[number][0] for number in sorts]), tuple(pipes))
    return web, tuple(sorts), tuple(flows)


def ringless_sway(book):
    """A ringless web of the book with the fewest vessels that sways, its sorts, two fillings that sway, or None."""
    growth = Growth(book)
    while growth.goes_on():
        growth.grow()
    if growth.root is None:
        return None
    web, sorts, flows = built(book, growth)
    one = standing_of(web, flows)
    return web, sorts, one, behind(web, one, streams(web, one, None))
