"""Webs [1.2]."""

import unittest
from unittest.mock import ANY

import oracle
from making import LISTS, many_times, some_web
from odd import OddCase, STEPS, TIGHT, TWO, answer, odd_things, spoiled
from twotides.webs import Web, is_ringless, parts, renaming

ONE = ((1, 1),)


def pipes(*ends):
    return tuple((one, other, ONE) for one, other in ends)


class WebTest(OddCase):
    def test_attributes(self):
        told = ((0, 2, 12), ((0, 1, ONE), (0, 1, STEPS), (1, 2, ONE)))
        web = Web(*told)
        self.assertEqual((web.widths, web.pipes), told)
        self.assertEqual(set(vars(web)) & {"widths", "pipes"}, {"widths", "pipes"})

    def test_edges(self):
        self.assertEqual(Web((1,), ()).pipes, ())
        self.assertEqual(Web((0,) * 12, pipes((10, 11))).widths, (0,) * 12)
        self.assertEqual(len(Web((1, 1), pipes(*[(0, 1)] * 36)).pipes), 36)
        self.refuses("BadWeb", {"part": "widths"}, Web, (), ())
        self.refuses("BadWeb", {"part": "widths"}, Web, (1,) * 13, ())
        self.refuses("BadWeb", {"part": "widths"}, Web, (1, 13), ())
        self.refuses("BadWeb", {"part": "widths"}, Web, (1, -1), ())
        self.refuses("BadWeb", {"part": "widths"}, Web, [1, 1], ())
        self.refuses("BadWeb", {"part": "pipes"}, Web, (1, 1), pipes(*[(0, 1)] * 37))
        self.refuses("BadWeb", {"part": "pipes"}, Web, (1, 1), [])
        self.refuses("BadWeb", {"part": "pipes"}, Web, (1, 1), None)

    def test_wrong_pipes(self):
        for wrong in ((1, 0, ONE), (0, 0, ONE), (0, 3, ONE), (-1, 1, ONE), (0, 1), (0, 1, ONE, ONE), [0, 1, ONE],
                      (False, 1, ONE), (0, True, ONE), (0, 1, ()), (0, 1, ((2, 1), (1, 1))), (0, 1, (1, 1)), None):
            self.refuses("BadWeb", {"part": 2}, Web, (1, 1, 1), (*pipes((0, 1), (1, 2)), wrong, (9, 9, ())))
            self.refuses("BadWeb", {"part": 0}, Web, (1, 1, 1), (wrong,))

    def test_widths_come_ahead_of_pipes(self):
        self.refuses("BadWeb", {"part": "widths"}, Web, None, None)

    def test_wrong_things(self):
        widths, told = (1, 0, 2), ((0, 1, ONE), (0, 2, STEPS))
        cases = [(other, told) for other in spoiled(widths)] + [(widths, other) for other in spoiled(told)]
        for case in cases:
            part = oracle.web_part(*case)
            word, fields = answer(Web, *case)
            if part is None:
                self.assertEqual((word, fields.widths, fields.pipes), ("returned", *case))
            else:
                self.assertEqual((word, fields), ("BadWeb", {"part": part}), case)

    def test_equal_just_if_both_are(self):
        self.assertTrue(TWO == Web((1, 1), ((0, 1, ONE),)))
        self.assertFalse(TWO != Web((1, 1), ((0, 1, ONE),)))
        for other in (Web((1, 2), ((0, 1, ONE),)), Web((1, 1), ()), Web((1, 1), ((0, 1, STEPS),)), Web((1,), ())):
            self.assertFalse(TWO == other)
            self.assertTrue(TWO != other)
        self.assertNotEqual(Web((1, 1, 1), pipes((0, 1), (1, 2))), Web((1, 1, 1), pipes((1, 2), (0, 1))))

    def test_equal_to_no_other_thing(self):
        for thing in [*odd_things(), TIGHT, ANY, (TWO.widths, TWO.pipes)]:
            if not isinstance(thing, Web):
                self.assertIs(TWO == thing, False)
                self.assertIs(TWO != thing, True)


class PartsTest(OddCase):
    def test_ordinary(self):
        self.assertEqual(parts(Web((1,) * 6, pipes((1, 4), (0, 5), (2, 4)))), [(0, 5), (1, 2, 4), (3,)])
        self.assertEqual(parts(Web((1,), ())), [(0,)])
        self.assertEqual(parts(Web((0, 0), ())), [(0,), (1,)])
        self.assertEqual(parts(Web((1,) * 12, pipes(*[(k, k + 1) for k in range(11)]))), [tuple(range(12))])

    def test_against_the_words(self):
        for rng in many_times(200):
            web = some_web(rng, 12)
            self.assertEqual(parts(web), oracle.parts(web))

    def test_new_each_time(self):
        parts(TWO).append(0)
        self.assertEqual(parts(TWO), [(0, 1)])


class RinglessTest(OddCase):
    def test_ordinary(self):
        self.assertIs(is_ringless(Web((1,), ())), True)
        self.assertIs(is_ringless(Web((1,) * 4, pipes((0, 3), (1, 3), (2, 3)))), True)
        self.assertIs(is_ringless(Web((1, 1), pipes((0, 1), (0, 1)))), False)
        self.assertIs(is_ringless(Web((1, 1), ((0, 1, ONE), (0, 1, STEPS)))), False)
        self.assertIs(is_ringless(Web((1,) * 3, pipes((0, 1), (1, 2), (0, 2)))), False)

    def test_seas_make_no_ring(self):
        self.assertIs(is_ringless(Web((0, 1, 0), pipes((0, 1), (1, 2)))), True)

    def test_against_the_words(self):
        for rng in many_times(200):
            web = some_web(rng, 12)
            due = len(web.pipes) == len(web.widths) - len(oracle.parts(web))
            self.assertIs(is_ringless(web), due)


class RenamingTest(OddCase):
    def test_the_least(self):
        self.assertEqual(renaming(Web((1,) * 7, ()), Web((1,) * 7, ())), tuple(range(7)))
        self.assertEqual(renaming(Web((1,) * 3, pipes((0, 1), (1, 2))), Web((1,) * 3, pipes((0, 1), (0, 2)))),
                         (1, 0, 2))
        self.assertEqual(renaming(Web((2, 1), ()), Web((1, 2), ())), (1, 0))

    def test_ends_may_change_places(self):
        self.assertEqual(renaming(Web((2, 1), pipes((0, 1))), Web((1, 2), pipes((0, 1)))), (1, 0))

    def test_alike_pipes_as_often_and_in_any_order(self):
        one = Web((1, 1, 1), ((0, 1, ONE), (0, 1, STEPS), (1, 2, ONE)))
        self.assertEqual(renaming(one, Web((1, 1, 1), ((1, 2, ONE), (0, 1, STEPS), (0, 1, ONE)))), (0, 1, 2))
        self.assertIsNone(renaming(one, Web((1, 1, 1), ((1, 2, ONE), (0, 1, ONE), (0, 1, ONE)))))
        self.assertIsNone(renaming(one, Web((1, 1, 1), ((1, 2, ONE), (0, 1, STEPS)))))
        self.assertIsNone(renaming(Web((1, 1), pipes((0, 1), (0, 1))), Web((1, 1), pipes((0, 1)))))

    def test_none(self):
        self.assertIsNone(renaming(Web((1,), ()), Web((1, 1), ())))
        self.assertIsNone(renaming(Web((1, 2), ()), Web((1, 1), ())))
        self.assertIsNone(renaming(Web((0,), ()), Web((1,), ())))

    def test_too_large(self):
        small, large = Web((1,) * 7, ()), Web((1,) * 8, ())
        for one, other in ((small, large), (large, small), (large, large), (Web((1,), ()), Web((1,) * 12, ()))):
            self.refuses("TooLarge", {"most": 7}, renaming, one, other)

    def test_seven_vessels_that_are_hard_to_tell_apart(self):
        ring = Web((1,) * 7, pipes(*[(k, k + 1) for k in range(6)], (0, 6)))
        two_rings = Web((1,) * 7, pipes((0, 1), (1, 2), (0, 2), (3, 4), (4, 5), (5, 6), (3, 6)))
        self.assertIsNone(renaming(ring, two_rings))
        self.assertEqual(renaming(two_rings, two_rings), tuple(range(7)))

    def test_against_the_words(self):
        for rng in many_times(300):
            one = some_web(rng, 5, (0, 1, 1), LISTS[:2], 5)
            names = list(range(len(one.widths)))
            rng.shuffle(names)
            widths = [one.widths[names.index(k)] for k in range(len(names))]
            moved = [(*sorted((names[low], names[high])), told) for low, high, told in one.pipes]
            rng.shuffle(moved)
            other = Web(tuple(widths), tuple(moved))
            self.assertIsNotNone(renaming(one, other))
            self.assertEqual(renaming(one, other), oracle.renaming(one, other))
            strange = some_web(rng, 5, (0, 1, 1), LISTS[:2], 5)
            self.assertEqual(renaming(one, strange), oracle.renaming(one, strange))


if __name__ == "__main__":
    unittest.main()
