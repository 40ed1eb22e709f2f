"""What DOC.md says of patterns, bounds, rings, case trees and tables, said once more: by trying all that may be."""

from fractions import Fraction
from functools import cache
from itertools import product
from math import ceil, floor, prod

import oracle


def by(amount, width):
    """An amount by a width, 0 for the sea."""
    return Fraction(amount, width) if width else Fraction(0)


def right_pattern(web, thing):
    if type(thing) is not tuple or len(thing) != len(web.pipes):
        return False
    return all(oracle.whole(ran, -len(told), len(told)) for ran, (_, _, told) in zip(thing, web.pipes)) and any(thing)


def right_rests(web, thing):
    if type(thing) is not tuple or len(thing) != len(web.widths):
        return False
    return all(oracle.whole(rest, 0, max(width - 1, 0)) for rest, width in zip(thing, web.widths))


def widths_too_many(web):
    return prod(width or 1 for width in web.widths) > 64


def flows_too_many(web, most):
    return prod(2 * len(told) + 1 for _, _, told in web.pipes) > most


def nets(web, pattern):
    found = [0] * len(web.widths)
    for (one, other, _), ran in zip(web.pipes, pattern):
        found[one] += ran
        found[other] -= ran
    return found


def stands(web, pattern, filling):
    """Whether a filling has these flows, and the contrary ones behind a tick."""
    if not oracle.right_filling(web, filling) or oracle.flows(web, filling, None) != pattern:
        return False
    later = oracle.tick(web, filling, None)
    return oracle.flows(web, later, None) == tuple(-ran for ran in pattern)


def near(web, pattern):
    """All fillings whose levels are at most 1/2 from half of the net by the width."""
    choices = []
    for width, net in zip(web.widths, nets(web, pattern)):
        least, most = ceil(Fraction(net - width, 2)), floor(Fraction(net + width, 2))
        choices.append(range(least, most + 1) if width else (0,))
    return product(*choices)


def runs(web, pattern):
    """Whether a pattern runs, by the twelfth fact."""
    return any(pattern) and any(stands(web, pattern, filling) for filling in near(web, pattern))


def all_patterns(web):
    return [flows for flows in product(*(range(-len(told), len(told) + 1) for _, _, told in web.pipes)) if any(flows)]


def patterns(web):
    return [flows for flows in all_patterns(web) if runs(web, flows)]


def sways(thresholds, ran, drop, step):
    return oracle.flow(thresholds, drop) == ran and oracle.flow(thresholds, drop - step) == -ran


@cache
def ways(thresholds, width, ahead, ran, behind):
    """How many drops of a pipe of a row do between these flows, by trying."""
    step = by(2 * ran - ahead - behind, width)
    far = int((oracle.value(thresholds[-1]) + abs(step)) * width) + 2
    return sum(sways(thresholds, ran, by(x, width), step) for x in range(-far, far + 1))


def bounds(web, pattern, rests):
    found = []
    net = nets(web, pattern)
    for (one, other, told), ran in zip(web.pipes, pattern):
        wide, wide_other = web.widths[one], web.widths[other]
        step = by(net[one], wide) - by(net[other], wide_other)
        rest = by(rests[one], wide) - by(rests[other], wide_other)
        most = int(max(oracle.value(each) for each in told) + abs(step)) + 2
        good = [z for z in range(-most, most + 1) if sways(told, ran, z + rest, step)]
        found.append((min(good), max(good)) if good else (1, 0))
    return tuple(found)


def is_ring_below_0(web, told, thing):
    """Whether a thing is a ring over pipes for which bounds are told, a dict, that together are below 0."""
    if type(thing) is not tuple or not thing:
        return False
    ends, total = [], 0
    for pair in thing:
        if type(pair) is not tuple or len(pair) != 2 or not all(map(oracle.whole, pair)):
            return False
        pipe, sense = pair
        if pipe not in told or sense not in (1, -1):
            return False
        here = ["sea" if web.widths[vessel] == 0 else vessel for vessel in web.pipes[pipe][:2]]
        ends.append(tuple(here[::sense]))
        total += told[pipe][1] if sense == 1 else -told[pipe][0]
    return total < 0 and all(ends[k - 1][1] == ends[k][0] for k in range(len(ends)))


def bars(web, told):
    """Whether some ring over the pipes with told bounds is below 0: the least ways between all vessels."""
    names = ["sea" if width == 0 else vessel for vessel, width in enumerate(web.widths)]
    ways = {(one, other): 10 ** 9 for one in names for other in names}
    for pipe, (low, high) in told.items():
        one, other = (names[vessel] for vessel in web.pipes[pipe][:2])
        ways[one, other] = min(ways[one, other], high)
        ways[other, one] = min(ways[other, one], -low)
    for mid in set(names):
        for one in set(names):
            for other in set(names):
                ways[one, other] = max(-10 ** 9, min(ways[one, other], ways[one, mid] + ways[mid, other]))
    return any(ways[name, name] < 0 for name in names)


def loose_bounds(web, flows):
    """By the pipes set their loose bounds; flows is a dict of those set."""
    width = max(web.widths)
    found = {}
    for pipe, ran in flows.items():
        one, other, told = web.pipes[pipe]
        least = most = Fraction(0)
        for number, (start, end, listed) in enumerate(web.pipes):
            part = by((start == one) - (end == one), web.widths[one])
            part -= by((start == other) - (end == other), web.widths[other])
            if number in flows:
                least, most = least + part * flows[number], most + part * flows[number]
            else:
                least, most = least - abs(part) * len(listed), most + abs(part) * len(listed)
        steps = [Fraction(c, width) for c in range(int(least * width), int(most * width) + 1)]
        far = int((oracle.value(told[-1]) + max(abs(least), abs(most))) * width) + 2
        good = [x for x in range(-far, far + 1)
                if oracle.flow(told, Fraction(x, width)) == ran
                and any(oracle.flow(told, Fraction(x, width) - c) == -ran for c in steps)]
        found[pipe] = (min(good), max(good)) if good else (1, 0)
    return found


def is_case_tree(web, thing, flows=None):
    flows = flows or {}
    if type(thing) is not tuple:
        return False
    if len(flows) == len(web.pipes) and not any(flows.values()):
        return len(thing) == 0
    if thing and type(thing[0]) is tuple:
        return is_ring_below_0(web, loose_bounds(web, flows), thing)
    if len(thing) != 2 or not oracle.whole(thing[0], 0, len(web.pipes) - 1) or thing[0] in flows:
        return False
    pipe, trees = thing
    many = len(web.pipes[pipe][2])
    if type(trees) is not tuple or len(trees) != 2 * many + 1:
        return False
    return all(is_case_tree(web, tree, {**flows, pipe: k - many}) for k, tree in enumerate(trees))


class Tables:
    """Hangs and tables of a small book."""

    def __init__(self, book):
        self.book = book
        self.kept = {}

    def kinds(self, sort):
        return [k for k, (_, joins) in enumerate(self.book.kinds) if any(sort in join for join in joins)]

    def right_hang(self, thing):
        if type(thing) is not tuple or len(thing) != 5 or not all(map(oracle.whole, thing)):
            return False
        sort, kind, rest, ran, net = thing
        if not 0 <= sort < len(self.book.sorts) or kind not in self.kinds(sort):
            return False
        width = self.book.sorts[sort][0]
        if width == 0 and (rest, net) != (0, 0) or not 0 <= rest < max(width, 1):
            return False
        return abs(ran) <= len(self.book.kinds[kind][0])

    def fits(self, hang, vessel):
        sort, kind, rest, ran, net = hang
        above, rest_above, net_above = vessel
        told, joins = self.book.kinds[kind]
        if (sort, above) not in joins and (above, sort) not in joins:
            return False
        wide, wide_above = self.book.sorts[sort][0], self.book.sorts[above][0]
        shift = by(rest, wide) - by(rest_above, wide_above)
        step = by(net, wide) - by(net_above, wide_above)
        key = (kind, ran, shift, step)
        if key not in self.kept:
            # A drop that will do lies between 0 and the step, or is below the first threshold.
            most = int(max(oracle.value(each) for each in told) + min(abs(step), 60)) + 2
            self.kept[key] = any(sways(told, ran, z + shift, step) for z in range(-most, most + 1))
        return self.kept[key]

    def vessels(self):
        for sort, (width, cap) in enumerate(self.book.sorts):
            most = cap * max((len(told) for told, _ in self.book.kinds), default=0)
            yield from ((sort, rest, net) for rest in range(width) for net in range(-most, most + 1) if width)

    def lots(self, table, vessel, most):
        """All sums of flows of at most so many children, and whether they are not all 0."""
        flows = {hang[3] for hang in table if self.fits(hang, vessel)}
        for many in range(most + 1):
            for lot in product(sorted(flows), repeat=many):
                yield sum(lot), any(lot)

    def due(self, table):
        """All hangs that must be in the table, as it is so far."""
        found = {(sort, kind, 0, ran, 0) for sort, (width, _) in enumerate(self.book.sorts) if width == 0
                 for kind in self.kinds(sort)
                 for ran in range(-len(self.book.kinds[kind][0]), len(self.book.kinds[kind][0]) + 1)}
        for sort, rest, net in self.vessels():
            for total, _ in self.lots(table, (sort, rest, net), self.book.sorts[sort][1] - 1):
                for kind in self.kinds(sort):
                    if abs(total + net) <= len(self.book.kinds[kind][0]):
                        found.add((sort, kind, rest, total + net, net))
        return found

    def sways(self, table):
        return any(some and total == -vessel[2] for vessel in self.vessels()
                   for total, some in self.lots(table, vessel, self.book.sorts[vessel[0]][1]))

    def is_table(self, thing):
        if type(thing) is not tuple or not all(map(self.right_hang, thing)):
            return False
        if sorted(set(thing)) != list(thing):
            return False
        return self.due(thing) <= set(thing) and not self.sways(thing)

    def closed(self, table=()):
        """The table with all that it comes to."""
        table = set(table)
        while not self.due(table) <= table:
            table |= self.due(table)
        return tuple(sorted(table))

    def least(self):
        table = self.closed()
        return None if self.sways(table) else table
