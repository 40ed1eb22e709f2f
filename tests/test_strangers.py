"""Strangers [12]: valves and those who open pipes, known by their answers alone."""

import unittest
from fractions import Fraction
from itertools import combinations_with_replacement

import oracle
from making import many_times, some_filling, some_opening, some_web
from odd import OddCase, STEPS, TWO, answer, odd_things, spoiled
from test_timetables import due as due_rounds
from twotides.fillings import tick
from twotides.lists import flow
from twotides.shapes import row_web
from twotides.strangers import is_refuted, led, read_off, refuted, stranger_end
from twotides.webs import Web

ONE = ((1, 1),)
ZERO = (0, 1)


def valve_of(thresholds):
    """A valve that is right."""
    return lambda one, other: oracle.flow(thresholds, oracle.value(one) - oracle.value(other))


def changed(valve, changes):
    """A valve with other answers to some levels."""
    return lambda one, other: changes.get((one, other), valve(one, other))


def levels_to(width, high):
    return [oracle.pair(Fraction(water, width)) for water in range(high + 1)] if width else [ZERO]


def asked(width, other, high):
    return [(one, two) for one in levels_to(width, high) for two in levels_to(other, high)]


def list_has(told):
    """Whether some list of at most six thresholds has these answers, a list of levels and answers."""
    sights = [(oracle.value(one) - oracle.value(other), ran) for (one, other), ran in told]
    if any(abs(ran) > 6 or ran * drop < 0 or (drop == 0 and ran) for drop, ran in sights):
        return False
    amounts = [(abs(drop), abs(ran)) for drop, ran in sights]
    return all(few <= many for low, few in amounts for high, many in amounts if low <= high)


def is_due(valve, width, other, high, thing):
    if type(thing) is not tuple or len(thing) not in (1, 2):
        return False
    pairs = asked(width, other, high)
    for pair in thing:
        if type(pair) is not tuple or len(pair) != 2 or not all(map(oracle.right_fraction, pair)) or pair not in pairs:
            return False
    return len(set(thing)) == len(thing) and not list_has([(pair, valve(*pair)) for pair in thing])


def right_width(thing):
    return oracle.whole(thing, 0, 12)


def right_high(thing):
    return oracle.whole(thing, 0, 40)


class RefutedTest(OddCase):
    def test_right_valves(self):
        for thresholds in (STEPS, ONE, ((1, 3), (1, 2), (7, 4)), ((1, 1),) * 6, ((10 ** 6, 1),)):
            for width, other, high in ((1, 1, 9), (2, 3, 12), (0, 4, 9), (5, 0, 40), (12, 12, 40), (1, 1, 0)):
                valve = valve_of(thresholds)
                self.assertIsNone(refuted(valve, width, other, high))
                self.assertIsNotNone(read_off(valve, width, other, high))
                self.assertIs(is_refuted(valve, width, other, high, ((ZERO, ZERO),)), False)

    def test_thresholds_beyond_those_of_lists(self):
        self.assertIsNone(refuted(lambda one, other: flow(((10 ** 6, 1),), ZERO), 1, 1, 5))
        fine = valve_of([(1, 1000)] * 3)
        self.assertIsNone(refuted(fine, 1, 2, 10))
        self.assertEqual(read_off(fine, 1, 2, 10), ((1, 2),) * 3)

    def test_always_0(self):
        self.assertIsNone(refuted(lambda one, other: 0, 3, 0, 40))
        self.assertEqual(read_off(lambda one, other: 0, 3, 0, 40), ())
        self.assertEqual(read_off(lambda one, other: 0, 3, 5, 0), ())

    def test_one_answer_changed(self):
        for rng in many_times(60):
            width, other = rng.choice(((1, 1), (2, 3), (0, 2), (3, 0), (4, 2)))
            high, right = rng.randint(0, 6), valve_of(rng.choice((STEPS, ONE, ((1, 3), (1, 2), (7, 4)))))
            pairs = asked(width, other, high)
            changes = {rng.choice(pairs): rng.choice((-7, -1, 0, 1, 2, 6, 7)) for _ in range(rng.randint(1, 2))}
            valve = changed(right, changes)
            found = refuted(valve, width, other, high)
            told = [(pair, valve(*pair)) for pair in pairs]
            self.assertEqual(found is None, list_has(told), (width, other, high, changes))
            self.assertEqual(found is None, read_off(valve, width, other, high) is not None)
            if found is not None:
                self.assertTrue(is_due(valve, width, other, high, found))
                for thing in (found, found[::-1]):
                    self.assertIs(is_refuted(valve, width, other, high, thing), True)

    def test_the_amount_alone(self):
        valve = (lambda one, other: abs(oracle.flow(STEPS, oracle.value(one) - oracle.value(other))))
        for width, other in ((1, 1), (0, 1), (2, 3)):
            found = refuted(valve, width, other, 12)
            self.assertEqual(len(found), 1)
            self.assertTrue(is_due(valve, width, other, 12, found))
            self.assertIsNone(refuted(valve, width, other, 1))
        # Beside a sea nothing lies higher.
        self.assertIsNone(refuted(valve, 3, 0, 40))

    def test_more_than_six(self):
        seven = valve_of([(k, 1) for k in range(1, 8)])
        self.assertIsNone(refuted(seven, 1, 1, 6))
        self.assertEqual(read_off(seven, 1, 1, 6), tuple((k, 1) for k in range(1, 7)))
        found = refuted(seven, 1, 1, 7)
        self.assertIn(found, ((((7, 1), ZERO),), ((ZERO, (7, 1)),)))
        self.assertIsNone(read_off(seven, 1, 1, 7))

    def test_not_by_the_drop_alone(self):
        # Alike drops between unlike levels must have alike answers.
        def valve(one, other):
            return 1 if one == (5, 1) and other == (3, 1) else 0

        found = refuted(valve, 1, 1, 6)
        self.assertTrue(is_due(valve, 1, 1, 6, found))
        self.assertEqual(len(found), 2)
        self.assertIsNone(refuted(valve, 1, 1, 4))

    def test_the_sea_has_the_level_0_alone(self):
        met = set()

        def valve(one, other):
            met.add((one, other))
            return 0

        refuted(valve, 0, 2, 3)
        self.assertEqual(met, {(ZERO, (k, 2) if k % 2 else (k // 2, 1)) for k in range(4)})
        met.clear()
        refuted(valve, 2, 3, 2)
        self.assertEqual(met, set(asked(2, 3, 2)))

    def test_bad_answers(self):
        bad = {(ZERO, (1, 2)): None, ((2, 1), (3, 2)): True}
        for call in (refuted, read_off):
            word, fields = answer(call, changed(valve_of(STEPS), bad), 1, 2, 3)
            self.assertEqual(word, "BadAnswer")
            self.assertIn((fields["one"], fields["other"]), bad)
            for odd in odd_things():
                # Ahead of a clash, too.
                told = answer(call, changed(lambda one, other: 9, {((2, 1), (3, 2)): odd}), 1, 2, 3)
                if oracle.whole(odd):
                    self.assertEqual(told[0], "returned")
                else:
                    self.assertEqual(told, ("BadAnswer", {"one": (2, 1), "other": (3, 2)}))
            self.assertEqual(answer(call, changed(valve_of(STEPS), bad), 1, 2, 0)[0], "returned")

    def test_wrong_things(self):
        valve = valve_of(STEPS)
        for call in (refuted, read_off):
            self.refuses_all("NoWidth", right_width, call, (valve,), 2, (3, 4))
            self.refuses_all("NoWidth", right_width, call, (valve, 2), 3, (4,))
            self.refuses_all("NoNumber", right_high, call, (valve, 2, 3), 4, ())
        self.refuses_all("NoWidth", right_width, is_refuted, (valve,), 2, (3, 4, None))
        self.refuses_all("NoWidth", right_width, is_refuted, (valve, 2), 3, (4, None))
        self.refuses_all("NoNumber", right_high, is_refuted, (valve, 2, 3), 4, (None,))
        for call, more in ((refuted, ()), (read_off, ()), (is_refuted, (None,))):
            for width, other in ((13, 1), (1, 13), (-1, 1), (True, 1), (1, None), (0, 0)):
                self.refuses("NoWidth", {}, call, lambda one, two: None, width, other, 41, *more)
            for high in (41, -1, True, None, "4"):
                self.refuses("NoNumber", {}, call, lambda one, two: None, 1, 0, high, *more)


class IsRefutedTest(OddCase):
    def test_named_things(self):
        valve = changed(valve_of(((2, 1), (4, 1))), {((3, 1), ZERO): 2, (ZERO, (1, 1)): 1})
        alone, one, two, fine = (ZERO, (1, 1)), ((3, 1), ZERO), ((5, 1), (2, 1)), ((2, 1), ZERO)
        for thing, due in (((alone,), True), ((alone, fine), True), ((fine, alone), True), ((alone, alone), False),
                           ((one,), False), ((one, two), True), ((two, one), True), ((one, one), False),
                           ((one, fine), False), ((one, two, fine), False), ((), False), ([alone], False),
                           ((list(alone),), False), (alone, False), (((ZERO, (6, 1)),), False), (None, False),
                           ((alone, ((6, 1), ZERO)), False), ((((0, 2), (1, 1)),), False), ((((-1, 1), ZERO),), False),
                           ((((False, 1), (1, 1)),), False), (((ZERO, (1, True)),), False), ((((1, 2), ZERO),), False),
                           (((ZERO, (1, 1), ZERO),), False), ((((0, 3), (3, 3)),), False)):
            self.assertIs(is_refuted(valve, 1, 1, 5, thing), due, thing)
            self.assertEqual(is_due(valve, 1, 1, 5, thing), due)
        self.assertIs(is_refuted(valve, 1, 1, 4, (one, two)), False)
        self.assertIs(is_refuted(valve, 1, 2, 10, (one, two)), True)
        self.assertIs(is_refuted(valve, 2, 1, 5, (one, two)), False)
        for thing in spoiled((one, two)):
            self.assertIs(is_refuted(valve, 1, 1, 5, thing), is_due(valve, 1, 1, 5, thing), thing)

    def test_bad_answers_in_the_thing_alone(self):
        bad, fine = ((2, 1), (1, 1)), ((3, 1), (1, 1))
        valve = changed(lambda one, other: 7, {bad: None})
        fields = {"one": (2, 1), "other": (1, 1)}
        self.refuses("BadAnswer", fields, is_refuted, valve, 1, 1, 5, (bad,))
        self.refuses("BadAnswer", fields, is_refuted, valve, 1, 1, 5, (bad, fine))
        self.refuses("BadAnswer", fields, is_refuted, valve, 1, 1, 5, (fine, bad))
        self.assertIs(is_refuted(valve, 1, 1, 5, (fine,)), True)
        self.assertIs(is_refuted(valve, 1, 1, 5, (fine, ((3, 1), ZERO))), True)
        self.assertIs(is_refuted(valve, 1, 1, 5, None), False)
        self.assertIs(is_refuted(valve, 1, 1, 1, (bad,)), False)
        self.refuses("BadAnswer", fields, refuted, valve, 1, 1, 5)

    def test_odd_answers(self):
        pair = ((2, 1), (1, 1))
        for odd in odd_things():
            word, told = answer(is_refuted, lambda one, other: odd, 1, 1, 5, (pair,))
            if oracle.whole(odd):
                self.assertEqual((word, told), ("returned", not 0 <= odd <= 6), odd)
            else:
                self.assertEqual((word, told), ("BadAnswer", {"one": (2, 1), "other": (1, 1)}), odd)


class ReadOffTest(OddCase):
    def test_ordinary(self):
        self.assertEqual(read_off(valve_of(STEPS), 1, 1, 9), STEPS)
        self.assertEqual(read_off(valve_of(STEPS), 1, 1, 4), STEPS[:2])
        self.assertEqual(read_off(valve_of(STEPS), 1, 1, 1), ())
        self.assertEqual(read_off(valve_of(STEPS), 0, 3, 40), STEPS)
        self.assertEqual(read_off(valve_of(((1, 3), (3, 4))), 2, 2, 9), ((1, 2), (1, 1)))
        self.assertEqual(read_off(valve_of(((1, 3), (3, 4))), 12, 12, 9), ((1, 3), (3, 4)))
        self.assertEqual(read_off(valve_of(((1, 1), (1, 1))), 2, 3, 9), ((1, 1), (1, 1)))

    def test_a_jump(self):
        self.assertEqual(read_off(valve_of(((2, 1),) * 5), 1, 0, 5), ((2, 1),) * 5)

    def test_what_is_read_off_answers_alike(self):
        for thresholds in combinations_with_replacement([(1, 6), (1, 3), (2, 3), (9, 4), (40, 1)], 3):
            for width, other in ((1, 2), (6, 4), (0, 3)):
                valve = valve_of(thresholds)
                found = read_off(valve, width, other, 12)
                for one, two in asked(width, other, 12):
                    self.assertEqual(valve_of(found)(one, two), valve(one, two))


def leader(opening_of):
    return lambda filling: opening_of[sum(filling) % len(opening_of)]


class LedTest(OddCase):
    def test_ordinary(self):
        self.assertEqual(led(TWO, (5, 0), lambda filling: None, 4), [(4, 1), (3, 2), (2, 3), (3, 2)])
        self.assertEqual(led(TWO, (5, 0), lambda filling: (), 2), [(5, 0), (5, 0)])
        self.assertEqual(led(TWO, (5, 0), lambda filling: (0,) if filling[0] > 4 else (), 3), [(4, 1)] * 3)
        self.assertEqual(led(TWO, (5, 0), lambda filling: 7, 0), [])
        self.assertEqual(len(led(TWO, (5, 0), lambda filling: None, 1000)), 1000)

    def test_against_the_words(self):
        for rng in many_times(100):
            web = some_web(rng)
            filling, kept = some_filling(rng, web), {}

            def stranger(now):
                return kept.setdefault(now, some_opening(rng, web))

            due, now = [], filling
            for _ in range(6):
                now = oracle.tick(web, now, stranger(now))
                due.append(now)
            self.assertEqual(led(web, filling, stranger, 6), due)

    def test_bad_openings(self):
        for odd in odd_things():
            for first in ((5, 0), (4, 1)):
                for call, more in ((led, (3,)), (stranger_end, ())):
                    told = answer(call, TWO, (5, 0), lambda filling: odd if filling == first else None, *more)
                    if oracle.right_opening(TWO, odd):
                        self.assertEqual(told[0], "returned")
                    else:
                        self.assertEqual(told, ("BadOpening", {"filling": first}), odd)
        self.refuses("BadOpening", {"filling": (3, 2)}, led, TWO, (5, 0), lambda now: None if now[0] > 3 else (1,), 3)
        self.assertEqual(led(TWO, (5, 0), lambda now: None if now[0] > 3 else (1,), 2), [(4, 1), (3, 2)])

    def test_wrong_things(self):
        def stranger(filling):
            return ()

        web = Web((1, 0, 2), ((0, 1, ONE), (0, 2, STEPS)))
        self.refuses_all("NoFilling", lambda thing: oracle.right_filling(web, thing), led, (web,), (3, 0, 1),
                         (stranger, 3))
        self.refuses_all("NoNumber", lambda thing: oracle.whole(thing, 0, 1000), led, (web, (3, 0, 1), stranger), 3, ())
        self.refuses_all("NoFilling", lambda thing: oracle.right_filling(web, thing), stranger_end, (web,), (3, 0, 1),
                         (stranger,))
        self.refuses("NoFilling", {}, led, web, (3, 1, 1), lambda filling: 7, None)
        self.refuses("NoNumber", {}, led, web, (3, 0, 1), lambda filling: 7, 1001)
        self.refuses("NoNumber", {}, led, web, (3, 0, 1), lambda filling: 7, -1)
        self.refuses("NoFilling", {}, stranger_end, web, (3, 1, 1), lambda filling: 7)


class StrangerEndTest(OddCase):
    def test_ordinary(self):
        self.assertEqual(stranger_end(TWO, (5, 0), lambda filling: None), (2, 2, 2))
        self.assertEqual(stranger_end(TWO, (4, 0), lambda filling: None), (2, 1, 0))
        self.assertEqual(stranger_end(TWO, (5, 0), lambda filling: ()), (0, 1, 0))
        self.assertEqual(stranger_end(Web((4,), ()), (5,), lambda filling: None), (0, 1, 0))

    def test_a_long_round(self):
        row = row_web(1, ONE, 3)
        turns = {(1, 0, 0): (0,), (0, 1, 0): (1,), (0, 0, 1): (1,)}
        self.assertEqual(stranger_end(row, (1, 0, 0), turns.get), (1, 2, 2))
        self.assertEqual(stranger_end(row, (0, 0, 1), turns.get), (0, 2, 2))
        self.refuses("BadOpening", {"filling": (1, 0, 0)}, stranger_end, row, (0, 1, 0),
                     {(0, 1, 0): (0,), (1, 0, 0): 5}.get)

    def test_against_rounds_of_one_opening(self):
        for rng in many_times(100):
            web = some_web(rng)
            filling, opening = some_filling(rng, web, 9), some_opening(rng, web)
            self.assertEqual(stranger_end(web, filling, lambda now: opening), due_rounds(web, filling, [opening]))

    def test_against_the_words(self):
        longest = 0
        for rng in many_times(150):
            web = some_web(rng, 4, (0, 1, 1, 2), (ONE, STEPS, ((1, 2),)), 6)
            openings, filling = [some_opening(rng, web) for _ in range(7)], some_filling(rng, web, 9)

            def stranger(now):
                return openings[sum(k * water for k, water in enumerate(now, 1)) % 7]

            met, measures = [filling], []
            while True:
                measures.append(sum(map(abs, oracle.flows(web, met[-1], stranger(met[-1])))))
                now = oracle.tick(web, met[-1], stranger(met[-1]))
                if now in met:
                    break
                met.append(now)
            lead = met.index(now)
            due = (lead, len(met) - lead, sum(measures[lead:]))
            self.assertEqual(stranger_end(web, filling, stranger), due)
            longest = max(longest, due[1])
        self.assertGreater(longest, 2)

    def test_limit(self):
        self.assertEqual(stranger_end(TWO, (39998, 0), lambda filling: (0,)), (19999, 1, 0))
        self.assertEqual(stranger_end(TWO, (39997, 0), lambda filling: (0,)), (19998, 2, 2))
        self.refuses("TooMany", {"most": 20000}, stranger_end, TWO, (40000, 0), lambda filling: (0,))
        self.refuses("TooMany", {"most": 20000}, stranger_end, TWO, (39999, 0), lambda filling: (0,))
        # What is told behind so many ticks is not asked for.
        late = (lambda filling: None if filling[0] > 20000 else 5)
        self.refuses("TooMany", {"most": 20000}, stranger_end, TWO, (40000, 0), late)
        self.refuses("BadOpening", {"filling": (20000, 19998)}, stranger_end, TWO, (39998, 0), late)

    def test_a_stranger_that_plays_well(self):
        # It shuts pipes before they overshoot.
        row = row_web(1, ONE, 3)

        def stranger(filling):
            return tuple(number for number in range(2) if abs(filling[number] - filling[number + 1]) > 1)

        lead, length, measures = stranger_end(row, (9, 0, 0), stranger)
        self.assertEqual((length, measures), (1, 0))
        self.assertEqual(led(row, (9, 0, 0), stranger, lead)[-1], (4, 3, 2))
        self.assertEqual(tick(row, (4, 3, 2), stranger((4, 3, 2))), (4, 3, 2))


if __name__ == "__main__":
    unittest.main()
