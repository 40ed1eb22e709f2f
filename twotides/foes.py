"""Foes: what comes of a filling when somebody opens whichever pipes at each tick, or one pipe at most."""

from twotides.basics import is_tuple_of
from twotides.errors import NotRest, TooMany
from twotides.fillings import check_filling, gates_of, is_opening, run_gates, streams

MOST_COMING = 3000


def lies_still(web, filling):
    """Whether a filling is a rest: where water runs, the highest or the lowest level that it joins changes."""
    return not any([ran != 0 for ran in streams(web, filling, None)])


def poured(web, filling, pipe, many):
    """The filling when so many measures ran through a pipe alone."""
    one, other, _ = web.pipes[pipe]
    waters = list(filling)
    if web.widths[one] > 0:
        waters[one] -= many
    if web.widths[other] > 0:
        waters[other] += many
    return tuple(waters)


def ways_singly(web, filling):
    """By the fillings to which a tick with one pipe open leads, water running, such an opening."""
    found = {}
    for pipe, many in enumerate(streams(web, filling, None)):
        if many != 0:
            found.setdefault(poured(web, filling, pipe, many), (pipe,))
    return found


def ways_of_foe(web, filling):
    """By the fillings to which a tick leads, water running, an opening of pipes in which it does."""
    found = {filling: ()}
    for pipe, many in enumerate(streams(web, filling, None)):
        if many != 0:
            for now, opening in list(found.items()):
                found.setdefault(poured(web, now, pipe, many), (*opening, pipe))
        # All of these can come, so no more of them need be found.
        if len(found) > MOST_COMING:
            raise TooMany(MOST_COMING)
    del found[filling]
    return found


def coming(web, filling, ways_from):
    """The fillings that can come, those in the fewest ticks first, each with its ways on.

    The second dict tells for each the filling and the opening by which it is come to.
    """
    ways, came = {}, {filling: None}
    now = [filling]
    while now:
        later = []
        for one in now:
            ways[one] = ways_from(web, one)
            for other, opening in ways[one].items():
                if other not in came:
                    came[other] = (one, opening)
                    later.append(other)
            if len(came) > MOST_COMING:
                raise TooMany(MOST_COMING)
        now = later
    return ways, came


def play_to(came, filling):
    """The openings that lead to a filling."""
    found = []
    while came[filling] is not None:
        filling, opening = came[filling]
        found.append(opening)
    return tuple(reversed(found))


def most_ticks(ways, start):
    """For each filling to which no round leads the most ticks, water running, that lead to it from the start."""
    counts = {filling: 0 for filling in ways}
    for filling in ways:
        for later in ways[filling]:
            counts[later] += 1
    ticks, done = {start: 0}, {}
    ready = [start] if counts[start] == 0 else []
    while ready:
        now = ready.pop()
        done[now] = ticks[now]
        for later in ways[now]:
            ticks[later] = max(ticks.get(later, 0), ticks[now] + 1)
            counts[later] -= 1
            if counts[later] == 0:
                ready.append(later)
    return done


def longest(web, filling, ways_from):
    """The greatest number of ticks in which water runs, by these ways; None if there is no greatest one."""
    check_filling(web, filling)
    ways, _ = coming(web, filling, ways_from)
    done = most_ticks(ways, filling)
    return max(list(done.values())) if len(done) == len(ways) else None


def round_among(ways, done):
    """The fillings of a round, the first of them once more at the end; None if all fillings are done.

    Of those that are not done each has one of them ahead, so that going back comes round.
    """
    before = {}
    for filling in ways:
        if filling not in done:
            for later in ways[filling]:
                before[later] = filling
    if not before:
        return None
    trail, places = [min(before)], {}
    while trail[-1] not in places:
        places[trail[-1]] = len(trail) - 1
        trail.append(before[trail[-1]])
    return list(reversed(trail[places[trail[-1]]:]))


def endless(web, filling, ways_from):
    """A play that goes on for ever by these ways, or None."""
    check_filling(web, filling)
    ways, came = coming(web, filling, ways_from)
    fillings = round_among(ways, most_ticks(ways, filling))
    if fillings is None:
        return None
    again = tuple([ways[now][later] for now, later in zip(fillings, fillings[1:])])
    return play_to(came, fillings[0]), again


def run_all(web, filling, openings):
    """The filling behind ticks with these openings, and how many measures run in them."""
    total = 0
    for opening in openings:
        filling, many = run_gates(web, gates_of(web, opening), filling)
        total += many
    return filling, total


def goes_round(web, filling, fits, thing):
    """Whether a thing is a play from the filling that goes on for ever, by openings that fit."""
    if not is_tuple_of(2, 2, thing) or not all([isinstance(openings, tuple) for openings in thing]):
        return False
    lead, again = thing
    if not all([fits(web, opening) for opening in (*lead, *again)]):
        return False
    start, _ = run_all(web, filling, lead)
    end, total = run_all(web, start, again)
    return end == start and total > 0


def is_single(web, thing):
    """Whether a thing is an opening of one pipe or of none."""
    return is_tuple_of(0, 1, thing) and is_opening(web, thing)


def longest_play(web, filling):
    """The greatest number of ticks in which water runs in a play of a foe, None if there is no greatest one."""
    return longest(web, filling, ways_of_foe)


def endless_play(web, filling):
    """A pair of openings that lead to a filling and of those that lead from it round to it, or None."""
    return endless(web, filling, ways_of_foe)


def is_endless_play(web, filling, thing):
    """Whether a thing is an endless play of a foe from the filling."""
    check_filling(web, filling)
    return goes_round(web, filling, is_opening, thing)


def still_play(web, filling):
    """Openings, as few as possible, that lead to a rest, or None."""
    check_filling(web, filling)
    ways, came = coming(web, filling, ways_of_foe)
    for later in ways:
        if not ways[later]:
            return play_to(came, later)
    return None


def wakes(web, filling):
    """The ascending list of the pairs of a vessel and 1 more or less in it with which a rest is none."""
    check_filling(web, filling)
    if not lies_still(web, filling):
        raise NotRest()
    found = []
    for vessel, width in enumerate(web.widths):
        for many in (-1, 1):
            changed = (*filling[:vessel], filling[vessel] + many, *filling[vessel + 1:])
            if width > 0 and not lies_still(web, changed):
                found.append((vessel, many))
    return found


def ends(web, filling):
    """The ascending list of the rests that can come."""
    check_filling(web, filling)
    ways, _ = coming(web, filling, ways_of_foe)
    return sorted([later for later in ways if not ways[later]])


def longest_single(web, filling):
    """As longest_play, when one pipe at most is opened at each tick."""
    return longest(web, filling, ways_singly)


def endless_single(web, filling):
    """As endless_play, when one pipe at most is opened at each tick."""
    return endless(web, filling, ways_singly)


def is_endless_single(web, filling, thing):
    """Whether a thing is an endless play from the filling that opens one pipe at most at each tick."""
    check_filling(web, filling)
    return goes_round(web, filling, is_single, thing)
