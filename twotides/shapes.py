"""Shapes of webs, and the narrowest book that a web is of."""

from twotides.basics import is_between
from twotides.books import Book
from twotides.errors import NoList, NoNumber, NoWidth, TooLarge
from twotides.lists import is_list, is_width
from twotides.webs import Web, pipe_counts

MOST_IN_ROW = 12
MOST_IN_STAR = 11
MOST_IN_FULL = 6
MOST_WIDTHS = 4
MOST_AT_VESSEL = 6
MOST_LISTS = 5


def check_shape(widths, thresholds, numbers, most):
    """Refuses what is no width, no list, no number from 1 to the most."""
    if not all([is_width(width) for width in widths]):
        raise NoWidth()
    if not is_list(thresholds):
        raise NoList()
    if not all([is_between(1, most, number) for number in numbers]):
        raise NoNumber()


def row_web(width, thresholds, many):
    """So many vessels, a pipe from each to the next."""
    check_shape([width], thresholds, [many], MOST_IN_ROW)
    widths = tuple([width for _ in range(many)])
    return Web(widths, tuple([(vessel, vessel + 1, thresholds) for vessel in range(many - 1)]))


def star_web(width, other, thresholds, many):
    """One vessel, and a pipe from it to each of so many other ones."""
    check_shape([width, other], thresholds, [many], MOST_IN_STAR)
    widths = (width, *[other for _ in range(many)])
    return Web(widths, tuple([(0, vessel + 1, thresholds) for vessel in range(many)]))


def full_web(width, other, thresholds, many, more):
    """Many vessels and more others, a pipe from each of the first to each of the others."""
    check_shape([width, other], thresholds, [many, more], MOST_IN_FULL)
    widths = (*[width for _ in range(many)], *[other for _ in range(more)])
    pipes = [(one, many + next_one, thresholds) for one in range(many) for next_one in range(more)]
    return Web(widths, tuple(pipes))


def narrow_cap(web, width):
    """The greatest number of pipes at a vessel of this width; 1 at least, and 1 for seas."""
    if width == 0:
        return 1
    return max([1, *[count for wide, count in zip(web.widths, pipe_counts(web)) if wide == width]])


def narrow_joins(web, sorts, thresholds):
    """The ascending tuple of the pairs of sorts that the pipes with this list join."""
    found = []
    for one, other, listed in web.pipes:
        if listed == thresholds:
            low, high = sorted([sorts[one], sorts[other]])
            found.append((low, high))
    return tuple(sorted(set(found)))


def narrowest(web):
    """The narrowest book that the web is of, and the sort of each vessel."""
    widths = sorted(set(web.widths))
    if len(widths) > MOST_WIDTHS:
        raise TooLarge(MOST_WIDTHS)
    caps = [narrow_cap(web, width) for width in widths]
    if max(caps) > MOST_AT_VESSEL:
        raise TooLarge(MOST_AT_VESSEL)
    lists = sorted(set([thresholds for _, _, thresholds in web.pipes]))
    if len(lists) > MOST_LISTS:
        raise TooLarge(MOST_LISTS)
    sorts = tuple([widths.index(width) for width in web.widths])
    kinds = tuple([(thresholds, narrow_joins(web, sorts, thresholds)) for thresholds in lists])
    return Book(tuple(zip(widths, caps)), kinds), sorts
