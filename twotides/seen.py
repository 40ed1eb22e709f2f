"""What was seen: lists of thresholds from drops and flows, and flows from two fillings."""

from twotides.basics import at_most, is_between, is_fraction, is_integer, is_tuple_of
from twotides.errors import NoNumber, NoSights, NotRingless
from twotides.fillings import all_drops, behind, check_filling, streams
from twotides.lists import MOST_THRESHOLDS
from twotides.webs import is_ringless, parts

MOST_SIGHTS = 1000
MOST_SEEN_TICKS = 1000
NOTHING = (0, 1)


def sights(web, filling, ticks):
    """The pairs of drop and flow of all pipes, all open, at each of so many ticks."""
    check_filling(web, filling)
    if not is_between(0, MOST_SEEN_TICKS, ticks):
        raise NoNumber()
    found = []
    for _ in range(ticks):
        ran = streams(web, filling, None)
        found.extend(list(zip(all_drops(web, filling), ran)))
        filling = behind(web, filling, ran)
    return found


def is_sight(thing):
    """Whether a thing is a pair of a drop and a flow."""
    return is_tuple_of(2, 2, thing) and is_fraction(thing[0]) and is_integer(thing[1])


def check_sights(told, many):
    """Refuses what are no sights, and what is no number of thresholds."""
    if not isinstance(told, (list, tuple)) or len(told) > MOST_SIGHTS:
        raise NoSights(-1)
    for index, thing in enumerate(told):
        if not is_sight(thing):
            raise NoSights(index)
    if not is_between(1, MOST_THRESHOLDS, many):
        raise NoNumber()


def amount(drop):
    """The amount of a drop."""
    return abs(drop[0]), drop[1]


def bars_alone(many, sight):
    """Whether no list of so many thresholds has a sight: too much runs, or the wrong way."""
    drop, ran = sight
    return abs(ran) > many or drop[0] * ran < 0 or (drop[0] == 0 and ran != 0)


def edges(told, number):
    """The indices of the greatest drop at which less than a number runs, and of the least at which so much does.

    Drops and flows are taken by their amounts; None stands where there is no such drop.
    """
    above = most = None
    for index, (drop, ran) in enumerate(told):
        if abs(ran) < number:
            if above is None or not at_most(amount(drop), amount(told[above][0])):
                above = index
        elif most is None or not at_most(amount(told[most][0]), amount(drop)):
            most = index
    return above, most


def clash_of(told, many):
    """As clash, of right sights."""
    for index, sight in enumerate(told):
        if bars_alone(many, sight):
            return (index,)
    for number in range(1, many + 1):
        above, most = edges(told, number)
        if above is not None and most is not None and at_most(amount(told[most][0]), amount(told[above][0])):
            return above, most
    return None


def fitted(sights, many):
    """For each threshold the pair of what it is above and of what it is at most, or None if no list fits."""
    check_sights(sights, many)
    if clash_of(sights, many) is not None:
        return None
    found = []
    for number in range(1, many + 1):
        above, most = edges(sights, number)
        found.append((NOTHING if above is None else amount(sights[above][0]),
                      None if most is None else amount(sights[most][0])))
    return tuple(found)


def clash(sights, many):
    """The index of a sight, or of two, that no list of so many thresholds has, or None."""
    check_sights(sights, many)
    return clash_of(sights, many)


def is_clash(sights, many, thing):
    """Whether a thing is such a tuple of one index or of two unlike ones."""
    check_sights(sights, many)
    if not is_tuple_of(1, 2, thing) or not all([is_between(0, len(sights) - 1, index) for index in thing]):
        return False
    if len(thing) == 2 and thing[0] == thing[1]:
        return False
    return clash_of([sights[index] for index in thing], many) is not None


def tells_flows(web):
    """Whether the flows of a web follow from two fillings: it is ringless, no part of it has two seas."""
    seas = [len([vessel for vessel in part if web.widths[vessel] == 0]) for part in parts(web)]
    return is_ringless(web) and max(seas) <= 1


def next_end(web, left):
    """A vessel, no sea, at which just one of the pipes that are left is, and this pipe."""
    at = {}
    for number in left:
        for vessel in web.pipes[number][:2]:
            at.setdefault(vessel, []).append(number)
    ends = [vessel for vessel in at if len(at[vessel]) == 1 and web.widths[vessel] > 0]
    return ends[0], at[ends[0]][0]


def flows_seen(web, filling, later):
    """The flows of a ringless web that lead from a filling to the later one, or None."""
    if not tells_flows(web):
        raise NotRingless()
    check_filling(web, filling)
    check_filling(web, later)
    # What still is to run out of each vessel; a sea takes and gives whatever is left to it.
    owed = [water - then for water, then in zip(filling, later)]
    flows = [0 for _ in web.pipes]
    left = list(range(len(web.pipes)))
    while left:
        vessel, pipe = next_end(web, left)
        one, other, _ = web.pipes[pipe]
        beside = other if vessel == one else one
        flows[pipe] = owed[vessel] if vessel == one else -owed[vessel]
        owed[beside] += owed[vessel]
        owed[vessel] = 0
        left.remove(pipe)
    if any([water != 0 and width > 0 for water, width in zip(owed, web.widths)]):
        return None
    return tuple(flows)
