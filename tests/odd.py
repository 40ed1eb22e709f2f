"""Wrong things of every kind, right things spoiled by them, and what a call answers to them."""

import unittest

from twotides.books import Book
from twotides.errors import BadWeb, NoFilling, TidesError
from twotides.plays import Play
from twotides.webs import Web

TWO = Web((1, 1), ((0, 1, ((1, 1),)),))
STEPS = ((2, 1), (4, 1), (5, 1))
TIGHT = Book(((1, 2),), ((STEPS, ((0, 0),)),))


def deep(wrap, times=40):
    thing = wrap(0)
    for _ in range(times - 1):
        thing = wrap(thing)
    return thing


def odd_things():
    """Things of all kinds that may come; some of them are right in some places."""
    return [
        None, True, False, NotImplemented, Ellipsis, object(),
        0, 1, 2, 3, 6, 7, 12, 13, 35, 36, 37, 144, 145, -1, -2, 10 ** 6, 10 ** 6 + 1, 10 ** 39, -10 ** 39,
        "", "0", "1", "widths", "pipes", "\n\t ~", b"", b"0", b"\x00\xff", bytearray(b"ab"), memoryview(b"ab"),
        [], [0], [0, 0], [1, 1], [(1, 1)], [[]], [None], {}, {0: 0}, {"a": [1]}, {0: 1, 1: 1},
        (), (0,), (0, 0), (0, 1), (1, 0), (1, 1), (1, 2), (0, 1, 2), (None,), (None, None), ("", ""), ((),), ((), ()),
        (True, 1), (1, True), (False, True), (2, 4), (0, 2), (-2, 4), (1, -2), (-1, -1), (4, 2), (1, "1"), ([], {}),
        ((1, 1),), ((1, 2), (1, 1)), ((1, 1), 1), ([1, 1],), ((1, 1), None), ((0, 1),), ((-1, 1),), ((2, 2),),
        ((1, 145),), ((10 ** 6 + 1, 1),), ((1, 1),) * 7, ((1, 1),) * 37, (0,) * 13, (1,) * 37,
        (0, 1, ((1, 1),)), ((0, 1, ((1, 1),)),), (((1, 1),), ((0, 0),)), (TWO, TWO), (TWO,), (TIGHT,), (NoFilling(),),
        deep(lambda thing: (thing,)), deep(lambda thing: [thing]), deep(lambda thing: {0: thing}),
        deep(lambda thing: (thing, thing), 10),
        len, int, bool, tuple, range, lambda *told: 0, odd_things, range(3), range(10 ** 39), slice(1), iter([]),
        zip(), {}.keys(), {0: 1}.items(), Web, TWO, TIGHT, Play(TWO, (5, 0)), BadWeb, BadWeb("widths"), NoFilling(),
        TidesError(), ValueError("x"), KeyError(0),
    ]


def spoiled(thing):
    """A right thing's place taken by each odd thing, likewise that of each thing inside it, and more."""
    yield from odd_things()
    if isinstance(thing, tuple):
        yield list(thing)
        yield dict(enumerate(thing))
        yield (*thing, *thing)
        yield (*thing, *thing[-1:], *(() if thing else (0,)))
        yield thing[::-1]
        for at, item in enumerate(thing):
            yield thing[:at] + thing[at + 1:]
            for other in spoiled(item):
                yield (*thing[:at], other, *thing[at + 1:])


def answer(call, *told):
    """What a call returns, or the name and the fields of the error that it raises."""
    before = repr(told)
    try:
        return "returned", call(*told)
    except TidesError as error:
        return error.__class__.__name__, vars(error)
    finally:
        assert repr(told) == before, "an argument was changed"


class OddCase(unittest.TestCase):
    """A test that asks for errors by their names and fields."""

    def refuses(self, name, fields, call, *told):
        self.assertEqual(answer(call, *told), (name, fields), told)

    def refuses_all(self, name, right, call, ahead, thing, behind):
        """Each spoiled form of a thing at its place of the call is refused, or is right and taken."""
        refused = taken = 0
        for other in spoiled(thing):
            word, fields = answer(call, *ahead, other, *behind)
            if right(other):
                self.assertEqual(word, "returned", other)
                taken += 1
            else:
                self.assertEqual((word, fields), (name, {}), other)
                refused += 1
        self.assertGreater(refused, 50)
        return taken
