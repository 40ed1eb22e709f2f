"""What DOC.md says of calm books and of their mending, said once more: by trying all that comes in question."""

from fractions import Fraction
from itertools import combinations, product

import oracle
from twotides.books import Book


def part(sort):
    width, cap = sort
    return Fraction(cap, width) if width else Fraction(0)


def room(sorts, join):
    return sum(part(sorts[sort]) for sort in join)


def grain(sorts, join):
    return oracle.grain(*(sorts[sort][0] for sort in join))


def breaks(sorts, thresholds, join, drop):
    return oracle.flow(thresholds, drop) * room(sorts, join) >= 2 * drop


def drops(sorts, join):
    """All drops above 0 that six measures can make contrary, ascending."""
    step = grain(sorts, join)
    return [many * step for many in range(1, int(3 * room(sorts, join) / step) + 1)]


def breaches(book):
    """All breaches, the least first."""
    return [(number, join, oracle.pair(drop)) for number, (thresholds, joins) in enumerate(book.kinds)
            for join in joins for drop in drops(book.sorts, join) if breaks(book.sorts, thresholds, join, drop)]


def is_breach(book, thing):
    if type(thing) is not tuple or len(thing) != 3 or not oracle.whole(thing[0], 0, len(book.kinds) - 1):
        return False
    number, join, drop = thing
    if type(join) is not tuple or len(join) != 2 or not all(map(oracle.whole, join)):
        return False
    if join not in book.kinds[number][1] or not oracle.right_fraction(drop):
        return False
    return (number, join, drop) in breaches(book)


def loss(book):
    """The least loss, None without kinds; thresholds are to be small."""
    found = []
    for thresholds, joins in book.kinds:
        for join in joins:
            step = grain(book.sorts, join)
            for many in range(1, int((oracle.value(thresholds[-1]) + 1) / step) + 1):
                ran = oracle.flow(thresholds, many * step)
                if ran:
                    found.append(2 * many * step - ran * room(book.sorts, join))
    return min(found, default=None)


def idle(web, filling):
    lots = [lot for lot in oracle.parts(web) if all(web.widths[vessel] for vessel in lot)]
    return sum(Fraction(sum(filling[v] for v in lot) ** 2, sum(web.widths[v] for v in lot)) for lot in lots)


def costs(book, web, sorts, filling, opening):
    found = []
    for number, drop in enumerate(oracle.drops(web, filling)):
        ran = abs(oracle.flows(web, filling, opening)[number])
        found.append(ran * (2 * abs(drop) - ran * room(book.sorts, [sorts[end] for end in web.pipes[number][:2]])))
    return found


def widest(book, i, j, many):
    step, found = grain(book.sorts, (i, j)), []
    for number in range(1, many + 1):
        drop = step
        while not drop > number * room(book.sorts, (i, j)) / 2:
            drop += step
        found.append(oracle.pair(drop))
    return tuple(found)


def right_mend(book, thing):
    if type(thing) is not tuple or len(thing) != 2 or any(type(half) is not tuple for half in thing):
        return False
    caps, struck = thing
    if len(caps) != len(book.sorts) or not all(oracle.whole(c, 1, cap) for c, (_, cap) in zip(caps, book.sorts)):
        return False
    return all(oracle.whole(k, 0, len(book.kinds) - 1) for k in struck) and sorted(set(struck)) == list(struck)


def mended(book, mend):
    sorts = tuple((width, cap) for (width, _), cap in zip(book.sorts, mend[0]))
    return Book(sorts, tuple(kind for number, kind in enumerate(book.kinds) if number not in mend[1]))


def price(book, mend, cap_prices, kind_prices):
    lowered = sum(each * (cap - lower) for each, (_, cap), lower in zip(cap_prices, book.sorts, mend[0]))
    return lowered + sum(kind_prices[number] for number in mend[1])


def mends(book):
    """All mends."""
    for caps in product(*(range(1, cap + 1) for _, cap in book.sorts)):
        for many in range(len(book.kinds) + 1):
            for struck in combinations(range(len(book.kinds)), many):
                yield caps, struck


def right_prices(many, thing):
    return type(thing) is tuple and len(thing) == many and all(oracle.whole(each, 0, 10 ** 6) for each in thing)
