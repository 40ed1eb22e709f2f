"""Strangers: valves and those who open pipes, of whom only the answers are known."""

from twotides.basics import fraction, is_between, is_fraction, is_integer, is_tuple_of, minus
from twotides.errors import BadAnswer, BadOpening, NoNumber, NoWidth
from twotides.fillings import check_filling, gates_of, is_opening, run_gates
from twotides.lists import MOST_THRESHOLDS, is_width
from twotides.seen import amount, clash_of, edges
from twotides.timetables import comes_again

MOST_HIGH = 40
MOST_LED = 1000


def check_valve(width, other, high):
    """Refuses what is no width, two seas, and what is no number of measures."""
    if not is_width(width) or not is_width(other) or width == other == 0:
        raise NoWidth()
    if not is_between(0, MOST_HIGH, high):
        raise NoNumber()


def levels_to(width, high):
    """The levels of a vessel with waters from 0 to high; of a sea 0 alone."""
    if width == 0:
        return [(0, 1)]
    return [fraction(water, width) for water in range(high + 1)]


def asked(width, other, high):
    """All pairs of levels of which a valve is asked."""
    return [(level, beside) for level in levels_to(width, high) for beside in levels_to(other, high)]


def answers(valve, pairs):
    """What the valve answers to pairs of levels, as sights: drops and flows."""
    found = []
    for one, other in pairs:
        ran = valve(one, other)
        if not is_integer(ran):
            raise BadAnswer(one, other)
        found.append((minus(one, other), ran))
    return found


def refuted(valve, width, other, high):
    """One pair of levels, or two, whose answers no list of thresholds has, or None."""
    check_valve(width, other, high)
    pairs = asked(width, other, high)
    found = clash_of(answers(valve, pairs), MOST_THRESHOLDS)
    return None if found is None else tuple([pairs[index] for index in found])


def is_levels(thing):
    """Whether a thing is a pair of levels."""
    return is_tuple_of(2, 2, thing) and is_fraction(thing[0]) and is_fraction(thing[1])


def is_refuted(valve, width, other, high, thing):
    """Whether a thing is such a tuple of one pair of levels or of two unlike ones."""
    check_valve(width, other, high)
    if not is_tuple_of(1, 2, thing):
        return False
    pairs = asked(width, other, high)
    if not all([is_levels(pair) and pair in pairs for pair in thing]):
        return False
    if len(thing) == 2 and thing[0] == thing[1]:
        return False
    return clash_of(answers(valve, thing), MOST_THRESHOLDS) is not None


def read_off(valve, width, other, high):
    """The least amounts of drops at which the valve tells 1, 2, .. at least, or None if it is refuted."""
    check_valve(width, other, high)
    told = answers(valve, asked(width, other, high))
    if clash_of(told, MOST_THRESHOLDS) is not None:
        return None
    greatest = max([abs(ran) for _, ran in told])
    found = []
    for number in range(1, greatest + 1):
        _, least = edges(told, number)
        found.append(amount(told[least][0]))
    return tuple(found)


def led_on(web, stranger, kept, filling):
    """The filling behind a tick with the opening that the stranger tells, and how many measures run in it.

    The gates of the openings that were told are kept.
    """
    opening = stranger(filling)
    if not is_opening(web, opening):
        raise BadOpening(filling)
    if opening not in kept:
        kept[opening] = gates_of(web, opening)
    return run_gates(web, kept[opening], filling)


def led(web, filling, stranger, many):
    """The fillings behind 1, 2, .. so many ticks, led by the stranger."""
    check_filling(web, filling)
    if not is_between(0, MOST_LED, many):
        raise NoNumber()
    kept, found = {}, []
    for _ in range(many):
        filling, _ = led_on(web, stranger, kept, filling)
        found.append(filling)
    return found


def stranger_end(web, filling, stranger):
    """The least lead and length, in ticks, of what comes again, and how many measures run in the length."""
    check_filling(web, filling)
    kept = {}
    return comes_again(filling, lambda now: led_on(web, stranger, kept, now))
