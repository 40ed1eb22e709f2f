"""What is asked of any thing, and how fractions are reckoned with."""

from math import gcd

MOST_PRICE = 1000000


def is_integer(thing):
    """Whether a thing is an integer; a flag is none."""
    return isinstance(thing, int) and not isinstance(thing, bool)


def is_between(low, high, thing):
    """Whether a thing is an integer from low to high."""
    return is_integer(thing) and low <= thing <= high


def is_tuple_of(low, high, thing):
    """Whether a thing is a tuple of low to high things, of whatever kind."""
    return isinstance(thing, tuple) and low <= len(thing) <= high


def is_fraction(thing):
    """Whether a thing is a fraction in lowest terms."""
    if not is_tuple_of(2, 2, thing):
        return False
    top, bottom = thing
    return is_integer(top) and is_integer(bottom) and bottom >= 1 and gcd(top, bottom) == 1


def is_prices(many, thing):
    """Whether a thing is a tuple of so many prices."""
    return is_tuple_of(many, many, thing) and all([is_between(0, MOST_PRICE, price) for price in thing])


def ascends(things):
    """Whether things that can be compared ascend, each of them once."""
    return all([low < high for low, high in zip(things, things[1:])])


def fraction(top, bottom):
    """The fraction top by bottom; the bottom is above 0."""
    shared = gcd(top, bottom)
    return top // shared, bottom // shared


def plus(one, other):
    """The sum of two fractions."""
    return fraction(one[0] * other[1] + other[0] * one[1], one[1] * other[1])


def minus(one, other):
    """The first fraction less the other one."""
    return fraction(one[0] * other[1] - other[0] * one[1], one[1] * other[1])


def times(number, part):
    """An integer times a fraction."""
    return fraction(number * part[0], part[1])


def at_most(one, other):
    """Whether the first fraction is at most the other one."""
    return one[0] * other[1] <= other[0] * one[1]
