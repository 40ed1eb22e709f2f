"""Books: which sorts of vessels and which kinds of pipes a web may have."""

from twotides.basics import ascends, is_between, is_tuple_of
from twotides.errors import BadBook, NoSorts
from twotides.lists import is_list, is_width
from twotides.webs import pipe_counts

MOST_SORTS = 4
MOST_KINDS = 5
MOST_CAP = 6


def is_sort(thing):
    """Whether a thing is a pair of a width and a cap."""
    return is_tuple_of(2, 2, thing) and is_width(thing[0]) and is_between(1, MOST_CAP, thing[1])


def is_sort_tuple(thing):
    """Whether a thing is a tuple of sorts as a book has, with one sea at most."""
    if not is_tuple_of(1, MOST_SORTS, thing) or not all([is_sort(sort) for sort in thing]):
        return False
    return len([1 for width, _ in thing if width == 0]) <= 1


def is_join(sorts, thing):
    """Whether a thing is a pair of numbers of sorts that a kind may join."""
    if not is_tuple_of(2, 2, thing):
        return False
    low, high = thing
    if not is_between(0, len(sorts) - 1, high) or not is_between(0, high, low):
        return False
    return low < high or sorts[low][0] > 0


def is_kind(sorts, thing):
    """Whether a thing is a pair of a list and the joins of a kind."""
    if not is_tuple_of(2, 2, thing):
        return False
    thresholds, joins = thing
    if not is_list(thresholds) or not isinstance(joins, tuple) or not joins:
        return False
    return all([is_join(sorts, join) for join in joins]) and ascends(joins)


class Book:
    """Sorts of vessels, each with a width and a cap, and kinds of pipes."""

    def __init__(self, sorts, kinds):
        if not is_sort_tuple(sorts):
            raise BadBook("sorts")
        if not is_tuple_of(0, MOST_KINDS, kinds):
            raise BadBook("kinds")
        for number, kind in enumerate(kinds):
            if not is_kind(sorts, kind):
                raise BadBook(number)
        self.sorts = sorts
        self.kinds = kinds

    def __eq__(self, other):
        return isinstance(other, Book) and self.sorts == other.sorts and self.kinds == other.kinds


def may_join(book, thresholds, one, other):
    """Whether some kind with this list may join the two sorts."""
    join = (min(one, other), max(one, other))
    return any([listed == thresholds and join in joins for listed, joins in book.kinds])


def exceeds_cap(book, sort, count):
    """Whether so many pipes are too many at a vessel of the sort; the sea takes any number."""
    width, cap = book.sorts[sort]
    return width > 0 and count > cap


def is_sorts(book, web, thing):
    """Whether a thing is a tuple with a sort for each vessel."""
    many = len(web.widths)
    return is_tuple_of(many, many, thing) and all([is_between(0, len(book.sorts) - 1, sort) for sort in thing])


def first_fault(book, web, sorts):
    """As fault, of sorts that are right."""
    for vessel, width in enumerate(web.widths):
        if width != book.sorts[sorts[vessel]][0]:
            return "width", vessel
    for vessel, count in enumerate(pipe_counts(web)):
        if exceeds_cap(book, sorts[vessel], count):
            return "cap", vessel
    for number, (one, other, thresholds) in enumerate(web.pipes):
        if not may_join(book, thresholds, sorts[one], sorts[other]):
            return "pipe", number
    return None


def fault(book, web, sorts):
    """The first reason why the web is not of the book with these sorts, or None."""
    if not is_sorts(book, web, sorts):
        raise NoSorts()
    return first_fault(book, web, sorts)


def choices_alone(book, web):
    """For each vessel the ascending list of the sorts with its width and enough of a cap."""
    choices = []
    for width, count in zip(web.widths, pipe_counts(web)):
        fitting = [sort for sort, (wide, _) in enumerate(book.sorts) if wide == width]
        choices.append([sort for sort in fitting if not exceeds_cap(book, sort, count)])
    return choices


def neighbours(web):
    """For each vessel the list of the pairs of a vessel that it is joined to and the pipe's list."""
    near = [[] for _ in web.widths]
    for one, other, thresholds in web.pipes:
        near[one].append((other, thresholds))
        near[other].append((one, thresholds))
    return near


def narrowed(book, near, choices, changed):
    """The choices without those that some neighbour bars, None if a vessel has none left.

    Only what follows from the changed vessels is looked at.
    """
    choices = list(choices)
    waiting = list(changed)
    while waiting:
        vessel = waiting.pop()
        if not choices[vessel]:
            return None
        for other, thresholds in near[vessel]:
            left = [sort for sort in choices[other]
                    if any([may_join(book, thresholds, sort, mine) for mine in choices[vessel]])]
            if len(left) < len(choices[other]):
                choices[other] = left
                waiting.append(other)
    return choices


def first_undecided(choices):
    """The first vessel with several choices, None if each has one."""
    for vessel, sorts in enumerate(choices):
        if len(sorts) > 1:
            return vessel
    return None


def undecided(choices):
    """What is left to decide, as a key: a vessel that is decided has nothing there."""
    return tuple([tuple(sorts) if len(sorts) > 1 else () for sorts in choices])


def each_decided(choices, vessel):
    """The choices with the vessel decided in each way, the greatest sort first."""
    lots = []
    for sort in reversed(choices[vessel]):
        lot = list(choices)
        lot[vessel] = [sort]
        lots.append((lot, [vessel]))
    return lots


def sorts_of(book, web):
    """The least tuple of sorts with which the web is of the book, or None."""
    near = neighbours(web)
    # The least choices lie on top, so that the first tuple that is found is the least.
    waiting = [(choices_alone(book, web), list(range(len(web.widths))))]
    # A decided vessel bars nothing further once the choices are narrowed, so what is
    # left to decide is in vain whenever it was met before.
    met = set()
    while waiting:
        choices, changed = waiting.pop()
        choices = narrowed(book, near, choices, changed)
        if choices is None or undecided(choices) in met:
            continue
        vessel = first_undecided(choices)
        if vessel is None:
            return tuple([sorts[0] for sorts in choices])
        met.add(undecided(choices))
        waiting.extend(each_decided(choices, vessel))
    return None
