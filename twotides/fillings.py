"""Fillings of webs: levels, drops, and what a tick does."""

from twotides.basics import ascends, fraction, is_between, is_integer, is_tuple_of
from twotides.errors import NoFilling, NoOpening
from twotides.lists import grains_in_one, in_grains, measures


def is_filling(web, thing):
    """Whether a thing is a filling of the web."""
    many = len(web.widths)
    if not is_tuple_of(many, many, thing) or not all([is_integer(water) for water in thing]):
        return False
    return all([width > 0 or water == 0 for width, water in zip(web.widths, thing)])


def is_opening(web, thing):
    """Whether a thing is None or an ascending tuple of numbers of the web's pipes."""
    if thing is None:
        return True
    many = len(web.pipes)
    if not is_tuple_of(0, many, thing) or not all([is_between(0, many - 1, number) for number in thing]):
        return False
    return ascends(thing)


def check_filling(web, filling):
    """Refuses what is no filling of the web."""
    if not is_filling(web, filling):
        raise NoFilling()


def check_opening(web, opening):
    """Refuses what is no opening of the web."""
    if not is_opening(web, opening):
        raise NoOpening()


def level_of(web, filling, vessel):
    """The top and the bottom of a level, perhaps not in lowest terms; a sea's is 0 by 1."""
    return filling[vessel], max(web.widths[vessel], 1)


def drop_of(web, filling, pipe):
    """The top and the bottom of a pipe's drop, perhaps not in lowest terms."""
    top, bottom = level_of(web, filling, pipe[0])
    top_other, bottom_other = level_of(web, filling, pipe[1])
    return top * bottom_other - top_other * bottom, bottom * bottom_other


def all_drops(web, filling):
    """As drops, of a right filling."""
    found = []
    for pipe in web.pipes:
        top, bottom = drop_of(web, filling, pipe)
        found.append(fraction(top, bottom))
    return tuple(found)


def levels(web, filling):
    """The levels of the vessels."""
    check_filling(web, filling)
    found = []
    for vessel in range(len(web.widths)):
        top, bottom = level_of(web, filling, vessel)
        found.append(fraction(top, bottom))
    return tuple(found)


def drops(web, filling):
    """The drops of the pipes."""
    check_filling(web, filling)
    return all_drops(web, filling)


def streams(web, filling, opening):
    """As flows, of a right filling and a right opening."""
    found = []
    for number, pipe in enumerate(web.pipes):
        if opening is None or number in opening:
            top, bottom = drop_of(web, filling, pipe)
            found.append(measures(pipe[2], top, bottom))
        else:
            found.append(0)
    return tuple(found)


def nets_by(web, ran):
    """For each vessel what ran out less what ran in, when so much ran through the pipes."""
    found = [0 for _ in web.widths]
    for (one, other, _), many in zip(web.pipes, ran):
        found[one] += many
        found[other] -= many
    return tuple(found)


def behind(web, filling, ran):
    """The filling when so much ran through the pipes; a sea stays 0."""
    found = []
    for width, water, net in zip(web.widths, filling, nets_by(web, ran)):
        found.append(water - net if width > 0 else 0)
    return tuple(found)


def gates_of(web, opening):
    """The open pipes, made ready for many ticks: ends, what their waters are in grains, thresholds in grains."""
    found = []
    for number, (one, other, thresholds) in enumerate(web.pipes):
        if opening is None or number in opening:
            width, width_other = web.widths[one], web.widths[other]
            many = grains_in_one(width, width_other)
            # A sea has no water, so it does not matter as how many grains it is counted.
            found.append((one, other, many // max(width, 1), many // max(width_other, 1), in_grains(thresholds, many)))
    return found


def run_gates(web, gates, filling):
    """The filling behind a tick through these gates, and how many measures run in it."""
    waters = list(filling)
    total = 0
    for one, other, grains, grains_other, steps in gates:
        drop = filling[one] * grains - filling[other] * grains_other
        many = len([1 for step in steps if step <= abs(drop)])
        total += many
        if drop < 0:
            many = -many
        waters[one] -= many
        waters[other] += many
    for vessel, width in enumerate(web.widths):
        if width == 0:
            waters[vessel] = 0
    return tuple(waters), total


def flows(web, filling, opening):
    """For each pipe what runs through it, from its one to its other."""
    check_filling(web, filling)
    check_opening(web, opening)
    return streams(web, filling, opening)


def tick(web, filling, opening):
    """The filling behind one tick."""
    check_filling(web, filling)
    check_opening(web, opening)
    return behind(web, filling, streams(web, filling, opening))


def nets(web, filling, opening):
    """For each vessel, seas too, what runs out less what runs in."""
    check_filling(web, filling)
    check_opening(web, opening)
    return nets_by(web, streams(web, filling, opening))
