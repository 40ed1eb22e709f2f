"""Ledgers: the square and the tide of a filling, and how the tide falls."""

from twotides.basics import fraction, minus, plus, times
from twotides.fillings import all_drops, behind, check_filling, streams
from twotides.lists import grains_in_one, rounded_up

NOTHING = (0, 1)


def square_of(web, filling):
    """As square, of a right filling."""
    total = NOTHING
    for width, water in zip(web.widths, filling):
        if width > 0:
            total = plus(total, fraction(water * water, width))
    return total


def taken_off(web, pipe, drop):
    """What tide takes off for a pipe with this drop."""
    one, other, thresholds = pipe
    many = grains_in_one(web.widths[one], web.widths[other])
    height = plus((abs(drop[0]), drop[1]), (1, 2 * many))
    total = NOTHING
    for threshold in rounded_up(thresholds, many):
        over = minus(height, threshold)
        if over[0] > 0:
            total = plus(total, over)
    return total


def square(web, filling):
    """The sum over the vessels, but the seas, of water times water by width."""
    check_filling(web, filling)
    return square_of(web, filling)


def tide(web, filling):
    """The square less what the drops are above the rounded thresholds, with half a grain."""
    check_filling(web, filling)
    total = square_of(web, filling)
    for pipe, drop in zip(web.pipes, all_drops(web, filling)):
        total = minus(total, taken_off(web, pipe, drop))
    return total


def falls(web, filling):
    """For each pipe by how much the tide falls for it in a tick with all pipes open."""
    check_filling(web, filling)
    ran = streams(web, filling, None)
    now = all_drops(web, filling)
    then = all_drops(web, behind(web, filling, ran))
    found = []
    for number, pipe in enumerate(web.pipes):
        less = minus(taken_off(web, pipe, then[number]), taken_off(web, pipe, now[number]))
        found.append(plus(less, times(ran[number], plus(now[number], then[number]))))
    return tuple(found)
