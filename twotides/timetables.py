"""Timetables: openings that are done round by round."""

from twotides.errors import NoOpening, TooMany
from twotides.fillings import check_filling, gates_of, is_opening, run_gates

MOST_OPENINGS = 12
MOST_ROUNDS = 20000


def is_timetable(web, thing):
    """Whether a thing is a list or tuple of 1 to 12 openings."""
    if not isinstance(thing, (list, tuple)) or not 1 <= len(thing) <= MOST_OPENINGS:
        return False
    return all([is_opening(web, opening) for opening in thing])


def run_round(web, lots, filling):
    """The filling behind a round through these lots of gates, and how many measures run in it."""
    total = 0
    for gates in lots:
        filling, many = run_gates(web, gates, filling)
        total += many
    return filling, total


def comes_again(filling, led):
    """The least lead and length of what comes again, and how many measures run in the length.

    What leads on tells of a filling the next one, and how many measures run meanwhile.
    """
    # The measures that ran ahead of each filling are kept, so that those between two are known.
    met = {filling: 0}
    sums = [0]
    while len(sums) <= MOST_ROUNDS:
        filling, many = led(filling)
        sums.append(sums[-1] + many)
        if filling in met:
            lead = met[filling]
            return lead, len(sums) - 1 - lead, sums[-1] - sums[lead]
        met[filling] = len(sums) - 1
    raise TooMany(MOST_ROUNDS)


def rounds(web, filling, timetable):
    """The least lead and length, in rounds, of what comes again, and how many measures run in the length."""
    check_filling(web, filling)
    if not is_timetable(web, timetable):
        raise NoOpening()
    lots = [gates_of(web, opening) for opening in timetable]
    return comes_again(filling, lambda now: run_round(web, lots, now))
