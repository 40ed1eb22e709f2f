"""Lists of thresholds: what flows at a drop, and lists made and rounded."""

from math import lcm

from twotides.basics import at_most, fraction, is_between, is_fraction, is_tuple_of, plus, times
from twotides.errors import NoFraction, NoList, NoNumber, NoWidth

MOST_THRESHOLDS = 6
MOST_TOP = 1000000
MOST_BOTTOM = 144
MOST_WIDTH = 12


def is_threshold(thing):
    """Whether a thing can stand in a list."""
    return is_fraction(thing) and 1 <= thing[0] <= MOST_TOP and thing[1] <= MOST_BOTTOM


def is_list(thing):
    """Whether a thing is a list of thresholds."""
    if not is_tuple_of(1, MOST_THRESHOLDS, thing):
        return False
    if not all([is_threshold(threshold) for threshold in thing]):
        return False
    return all([at_most(low, high) for low, high in zip(thing, thing[1:])])


def is_width(thing):
    """Whether a thing is a width; 0 is the sea."""
    return is_between(0, MOST_WIDTH, thing)


def measures(thresholds, top, bottom):
    """The flow at the drop top by bottom, which need not be in lowest terms."""
    amount = abs(top)
    many = len([1 for over, under in thresholds if over * bottom <= amount * under])
    return -many if top < 0 else many


def flow(thresholds, drop):
    """How many thresholds are at most the drop's amount, with the drop's sign."""
    if not is_list(thresholds):
        raise NoList()
    if not is_fraction(drop):
        raise NoFraction()
    top, bottom = drop
    return measures(thresholds, top, bottom)


def spaced(first, step, many):
    """The list first, first + step, .. of so many thresholds."""
    if not is_fraction(first) or first[0] <= 0:
        raise NoFraction()
    if not is_fraction(step) or step[0] < 0:
        raise NoFraction()
    if not is_between(1, MOST_THRESHOLDS, many):
        raise NoNumber()
    thresholds = tuple([plus(first, times(number, step)) for number in range(many)])
    if not is_list(thresholds):
        raise NoList()
    return thresholds


def grains_in_one(width, other):
    """How many grains of two widths make 1; a sea's level is whole, as with the width 1."""
    return lcm(max(width, 1), max(other, 1))


def in_grains(thresholds, many):
    """The thresholds, each raised to the next multiple of 1 by many, as how many of these it is."""
    return [(top * many + bottom - 1) // bottom for top, bottom in thresholds]


def rounded_up(thresholds, many):
    """The thresholds, each raised to the next multiple of 1 by many."""
    return tuple([fraction(top, many) for top in in_grains(thresholds, many)])


def window(steps, ran, least, most):
    """The least and the greatest drop at which so much runs, and the contrary when it is less a step.

    All is told in grains, the thresholds in steps; the step is any one from the least to the most.
    The first is above the second if there is no such drop.
    """
    if ran < 0:
        low, high = window(steps, -ran, -most, -least)
        return -high, -low
    if ran == 0:
        return max(1 - steps[0], 1 - steps[0] + least), min(steps[0] - 1, steps[0] - 1 + most)
    low, high = steps[ran - 1], most - steps[ran - 1]
    if ran < len(steps):
        return max(low, least - steps[ran] + 1), min(high, steps[ran] - 1)
    return low, high


def rounded(thresholds, width, other):
    """The thresholds, each raised to the next multiple of the grain."""
    if not is_list(thresholds):
        raise NoList()
    if not is_width(width) or not is_width(other):
        raise NoWidth()
    return rounded_up(thresholds, grains_in_one(width, other))
