"""Mending a book: other thresholds, caps, widths or joins with which it is calm."""

from twotides.basics import ascends, at_most, fraction, is_between, is_prices, is_tuple_of
from twotides.books import MOST_CAP, Book
from twotides.calm import calm, calm_kind, check_pair, grains_of, is_sort_number, least_breach, room_of
from twotides.errors import NoList, NoMend, NoNumber, NoPrices, NoSort
from twotides.lists import MOST_THRESHOLDS, MOST_WIDTH, is_list


def widest_of(sorts, i, j, many):
    """As widest, of right sorts and a right number."""
    top, bottom = room_of(sorts, i, j)
    grains = grains_of(sorts, i, j)
    return tuple([fraction(number * top * grains // (2 * bottom) + 1, grains) for number in range(1, many + 1)])


def widest(book, i, j, many):
    """For each number of measures the least drop, in grains, that they make less than contrary."""
    check_pair(book, i, j)
    if not is_between(1, MOST_THRESHOLDS, many):
        raise NoNumber()
    return widest_of(book.sorts, i, j, many)


def raised_to(thresholds, others):
    """The greater one of each two thresholds with the same number."""
    return tuple([other if at_most(mine, other) else mine for mine, other in zip(thresholds, others)])


def raised_kind(sorts, kind):
    """The kind with its thresholds raised so that it has no breach."""
    thresholds, joins = kind
    for i, j in joins:
        thresholds = raised_to(thresholds, widest_of(sorts, i, j, len(thresholds)))
    return thresholds, joins


def raised(book):
    """The calm book with each threshold raised as far as it must be, the book itself if none must."""
    kinds = tuple([raised_kind(book.sorts, kind) for kind in book.kinds])
    return book if kinds == book.kinds else Book(book.sorts, kinds)


def is_caps(book, thing):
    """Whether a thing is a tuple with an integer from 1 to its cap for each sort."""
    many = len(book.sorts)
    if not is_tuple_of(many, many, thing):
        return False
    return all([is_between(1, cap, lower) for (_, cap), lower in zip(book.sorts, thing)])


def is_struck(book, thing):
    """Whether a thing is an ascending tuple of numbers of kinds."""
    many = len(book.kinds)
    if not is_tuple_of(0, many, thing) or not all([is_between(0, many - 1, number) for number in thing]):
        return False
    return ascends(thing)


def with_caps(sorts, caps):
    """The sorts with these caps."""
    return tuple([(width, cap) for (width, _), cap in zip(sorts, caps)])


def mended(book, mend):
    """The book with the caps of the mend, without the kinds that it strikes."""
    if not is_tuple_of(2, 2, mend) or not is_caps(book, mend[0]) or not is_struck(book, mend[1]):
        raise NoMend()
    caps, struck = mend
    kinds = [kind for number, kind in enumerate(book.kinds) if number not in struck]
    return Book(with_caps(book.sorts, caps), tuple(kinds))


def all_caps(book):
    """All tuples of caps to which those of the book can be lowered."""
    found = [()]
    for _, cap in book.sorts:
        found = [(*caps, lower) for caps in found for lower in range(1, cap + 1)]
    return found


def price_of_caps(book, cap_prices, caps):
    """What it costs to lower the caps of the book to these."""
    return sum([price * (cap - lower) for price, (_, cap), lower in zip(cap_prices, book.sorts, caps)])


def cheapest(book, cap_prices, kind_prices):
    """The least price of a mend that makes the book calm, and such a mend."""
    if not is_prices(len(book.sorts), cap_prices) or not is_prices(len(book.kinds), kind_prices):
        raise NoPrices()
    best = None
    for caps in all_caps(book):
        # Whether a kind has a breach is its own affair, so just those that have one are struck.
        sorts = with_caps(book.sorts, caps)
        struck = [number for number, kind in enumerate(book.kinds) if not calm_kind(sorts, kind)]
        price = price_of_caps(book, cap_prices, caps) + sum([kind_prices[number] for number in struck])
        if best is None or price < best[0]:
            best = (price, (caps, tuple(struck)))
    return best


def with_sort(book, number, sort):
    """The book with this sort in the place of that with the number."""
    return Book((*book.sorts[:number], sort, *book.sorts[number + 1:]), book.kinds)


def check_no_sea(book, sort):
    """Refuses what is no sort, and the sea."""
    if not is_sort_number(book, sort) or book.sorts[sort][0] == 0:
        raise NoSort()


def greatest_cap(book, sort):
    """The greatest cap of the sort with which the book is calm, or None."""
    check_no_sea(book, sort)
    width, _ = book.sorts[sort]
    for cap in range(MOST_CAP, 0, -1):
        if calm(with_sort(book, sort, (width, cap))):
            return cap
    return None


def least_width(book, sort):
    """The least width of the sort, not below its own, with which the book is calm, or None."""
    check_no_sea(book, sort)
    own, cap = book.sorts[sort]
    for width in range(own, MOST_WIDTH + 1):
        if calm(with_sort(book, sort, (width, cap))):
            return width
    return None


def calm_joins(book, thresholds):
    """The ascending list of the joins with which a kind with this list has no breach."""
    if not is_list(thresholds):
        raise NoList()
    many = len(book.sorts)
    pairs = [(i, j) for i in range(many) for j in range(i, many) if i < j or book.sorts[i][0] > 0]
    return [join for join in pairs if least_breach(book.sorts, thresholds, join) is None]
