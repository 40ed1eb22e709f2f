"""What DOC.md says of right things and of their values, said once more and in other words."""

from fractions import Fraction
from itertools import permutations, product
from math import lcm


def whole(thing, low=None, high=None):
    return type(thing) is int and (low is None or low <= thing) and (high is None or thing <= high)


def value(pair):
    return Fraction(*pair)


def pair(number):
    return Fraction(number).numerator, Fraction(number).denominator


def right_fraction(thing):
    if type(thing) is not tuple or len(thing) != 2 or not all(map(whole, thing)) or thing[1] < 1:
        return False
    return pair(value(thing)) == thing


def right_threshold(thing):
    return right_fraction(thing) and 0 < thing[0] <= 10 ** 6 and thing[1] <= 144


def right_list(thing):
    if type(thing) is not tuple or not 1 <= len(thing) <= 6 or not all(map(right_threshold, thing)):
        return False
    return sorted(thing, key=value) == list(thing)


def right_width(thing):
    return whole(thing, 0, 12)


def right_pipe(vessels, thing):
    if type(thing) is not tuple or len(thing) != 3:
        return False
    one, other, thresholds = thing
    if not whole(one, 0, vessels - 1) or not whole(other, 0, vessels - 1):
        return False
    return one < other and right_list(thresholds)


def web_part(widths, pipes):
    """The part with which BadWeb is due, None for a web."""
    if type(widths) is not tuple or not 1 <= len(widths) <= 12 or not all(map(right_width, widths)):
        return "widths"
    if type(pipes) is not tuple or len(pipes) > 36:
        return "pipes"
    return next((k for k, pipe in enumerate(pipes) if not right_pipe(len(widths), pipe)), None)


def right_sort(thing):
    return type(thing) is tuple and len(thing) == 2 and right_width(thing[0]) and whole(thing[1], 1, 6)


def right_join(sorts, thing):
    if type(thing) is not tuple or len(thing) != 2:
        return False
    if not all(whole(sort, 0, len(sorts) - 1) for sort in thing) or thing[0] > thing[1]:
        return False
    return not all(sorts[sort][0] == 0 for sort in thing)


def right_kind(sorts, thing):
    if type(thing) is not tuple or len(thing) != 2 or not right_list(thing[0]):
        return False
    joins = thing[1]
    if type(joins) is not tuple or not joins or not all(right_join(sorts, join) for join in joins):
        return False
    return sorted(set(joins)) == list(joins)


def book_part(sorts, kinds):
    """The part with which BadBook is due, None for a book."""
    if type(sorts) is not tuple or not 1 <= len(sorts) <= 4 or not all(map(right_sort, sorts)):
        return "sorts"
    if sum(width == 0 for width, _ in sorts) > 1:
        return "sorts"
    if type(kinds) is not tuple or len(kinds) > 5:
        return "kinds"
    return next((k for k, kind in enumerate(kinds) if not right_kind(sorts, kind)), None)


def right_sorts(book, web, thing):
    if type(thing) is not tuple or len(thing) != len(web.widths):
        return False
    return all(whole(sort, 0, len(book.sorts) - 1) for sort in thing)


def right_filling(web, thing):
    if type(thing) is not tuple or len(thing) != len(web.widths) or not all(map(whole, thing)):
        return False
    return all(width or not water for width, water in zip(web.widths, thing))


def right_opening(web, thing):
    if thing is None:
        return True
    if type(thing) is not tuple or not all(whole(number, 0, len(web.pipes) - 1) for number in thing):
        return False
    return sorted(set(thing)) == list(thing)


def grain(width, other):
    if width and other:
        return Fraction(1, lcm(width, other))
    return Fraction(1, width or other or 1)


def flow(thresholds, drop):
    """The flow at a drop, a Fraction."""
    many = sum(value(threshold) <= abs(drop) for threshold in thresholds)
    return many if drop > 0 else -many


def rounded(thresholds, width, other):
    """The rounded thresholds, as Fractions."""
    step = grain(width, other)
    return [-(-value(threshold) // step) * step for threshold in thresholds]


def levels(web, filling):
    return [Fraction(water, width) if width else Fraction(0) for width, water in zip(web.widths, filling)]


def drops(web, filling):
    level = levels(web, filling)
    return [level[one] - level[other] for one, other, _ in web.pipes]


def flows(web, filling, opening):
    return tuple(flow(pipe[2], drop) if opening is None or number in opening else 0
                 for number, (pipe, drop) in enumerate(zip(web.pipes, drops(web, filling))))


def nets(web, filling, opening):
    ran = flows(web, filling, opening)
    return tuple(sum(ran[k] for k, pipe in enumerate(web.pipes) if pipe[0] == vessel)
                 - sum(ran[k] for k, pipe in enumerate(web.pipes) if pipe[1] == vessel)
                 for vessel in range(len(web.widths)))


def tick(web, filling, opening):
    return tuple(water - net if width else 0
                 for width, water, net in zip(web.widths, filling, nets(web, filling, opening)))


def square(web, filling):
    return sum(Fraction(water ** 2, width) for width, water in zip(web.widths, filling) if width)


def taken(web, pipe, drop):
    one, other, thresholds = pipe
    half = grain(web.widths[one], web.widths[other]) / 2
    return sum(max(0, abs(drop) + half - t) for t in rounded(thresholds, web.widths[one], web.widths[other]))


def tide(web, filling):
    return square(web, filling) - sum(map(taken, [web] * 36, web.pipes, drops(web, filling)))


def falls(web, filling):
    now, then = drops(web, filling), drops(web, tick(web, filling, None))
    ran = flows(web, filling, None)
    return [taken(web, pipe, then[k]) - taken(web, pipe, now[k]) + ran[k] * (now[k] + then[k])
            for k, pipe in enumerate(web.pipes)]


def parts(web):
    lots = [{vessel} for vessel in range(len(web.widths))]
    for one, other, _ in web.pipes:
        both = [lot for lot in lots if one in lot or other in lot]
        lots = [lot for lot in lots if lot not in both] + [set().union(*both)]
    return sorted(tuple(sorted(lot)) for lot in lots)


def renaming(one, other):
    if len(one.widths) != len(other.widths):
        return None
    theirs = sorted(other.pipes)
    for names in permutations(range(len(one.widths))):
        if any(one.widths[k] != other.widths[name] for k, name in enumerate(names)):
            continue
        mine = [(*sorted((names[low], names[high])), thresholds) for low, high, thresholds in one.pipes]
        if sorted(mine) == theirs:
            return names
    return None


def fault(book, web, sorts):
    for vessel, width in enumerate(web.widths):
        if book.sorts[sorts[vessel]][0] != width:
            return "width", vessel
    for vessel, width in enumerate(web.widths):
        if width and sum(vessel in pipe[:2] for pipe in web.pipes) > book.sorts[sorts[vessel]][1]:
            return "cap", vessel
    for number, (one, other, thresholds) in enumerate(web.pipes):
        join = tuple(sorted((sorts[one], sorts[other])))
        if not any(kind[0] == thresholds and join in kind[1] for kind in book.kinds):
            return "pipe", number
    return None


def sorts_of(book, web):
    ways = product(range(len(book.sorts)), repeat=len(web.widths))
    return next((sorts for sorts in ways if fault(book, web, sorts) is None), None)
