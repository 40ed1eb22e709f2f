"""Webs, books, fillings and openings by the hundred, the same in each run."""

from random import Random

from twotides.books import Book
from twotides.webs import Web

LISTS = (
    ((1, 1),), ((1, 2),), ((2, 1), (4, 1), (5, 1)), ((1, 3), (1, 3), (1, 2)), ((1, 144),), ((3, 2), (9, 4), (7, 3)),
    ((1, 5), (2, 5), (3, 5), (4, 5), (1, 1), (6, 5)), ((1000000, 1),), ((7, 2), (7, 2)),
)


def some_list(rng):
    return rng.choice(LISTS)


def some_web(rng, most=5, widths=(0, 1, 2, 3, 4, 6, 12), lists=LISTS, most_pipes=8):
    many = rng.randint(1, most)
    pipes = []
    for _ in range(rng.randint(0, most_pipes) if many > 1 else 0):
        one, other = sorted(rng.sample(range(many), 2))
        pipes.append((one, other, rng.choice(lists)))
    return Web(tuple(rng.choice(widths) for _ in range(many)), tuple(pipes))


def some_filling(rng, web, high=20):
    return tuple(rng.randint(-high, high) if width else 0 for width in web.widths)


def some_opening(rng, web):
    if rng.randrange(4) == 0:
        return None
    return tuple(number for number in range(len(web.pipes)) if rng.randrange(2))


def some_book(rng, widths=(0, 1, 1, 2), lists=LISTS[:3]):
    sorts = []
    for _ in range(rng.randint(1, 4)):
        width = rng.choice(widths)
        if width or not any(wide == 0 for wide, _ in sorts):
            sorts.append((width, rng.randint(1, 6)))
    sorts = sorts or [(1, 3)]
    free = [(i, j) for i in range(len(sorts)) for j in range(i, len(sorts)) if i < j or sorts[i][0]]
    kinds = []
    for _ in range(rng.randint(0, 5) if free else 0):
        kinds.append((rng.choice(lists), tuple(sorted(rng.sample(free, rng.randint(1, len(free)))))))
    return Book(tuple(sorts), tuple(kinds))


def many_times(times, seed=1):
    """So many sources of chance, the same in each run."""
    return [Random(f"{seed} {number}") for number in range(times)]
