"""What was seen [11]: sights, lists that fit them, flows between two fillings."""

import unittest
from fractions import Fraction
from itertools import combinations_with_replacement, product

import oracle
from making import LISTS, many_times, some_filling, some_web
from odd import OddCase, STEPS, TWO, answer, spoiled
from twotides.fillings import flows
from twotides.seen import clash, fitted, flows_seen, is_clash, sights
from twotides.shapes import row_web, star_web
from twotides.webs import Web, is_ringless

ONE = ((1, 1),)
E11 = [((2, 1), 1), ((4, 1), 2), ((1, 1), 0)]


def right_sight(thing):
    return type(thing) is tuple and len(thing) == 2 and oracle.right_fraction(thing[0]) and oracle.whole(thing[1])


def index_due(thing):
    """The index with which NoSights is due, None for sights."""
    if type(thing) not in (list, tuple) or len(thing) > 1000:
        return -1
    return next((k for k, item in enumerate(thing) if not right_sight(item)), None)


def has_all(thresholds, told):
    return all(oracle.flow(thresholds, oracle.value(drop)) == ran for drop, ran in told)


def places(told):
    """The thresholds of which some do if any do, and some between them."""
    amounts = sorted({abs(oracle.value(drop)) for drop, _ in told} | {Fraction(0)})
    beside = [(low + high) / 2 for low, high in zip(amounts, amounts[1:])]
    return [oracle.pair(place) for place in sorted([*amounts[1:], *beside, amounts[-1] + 1])]


def fitting(told, many):
    """All lists of so many of the places that have all that was told."""
    return [lot for lot in combinations_with_replacement(places(told), many) if has_all(lot, told)]


def is_clash_due(told, many, thing):
    if type(thing) is not tuple or len(thing) not in (1, 2):
        return False
    if not all(oracle.whole(index, 0, len(told) - 1) for index in thing) or len(set(thing)) < len(thing):
        return False
    return not fitting([told[index] for index in thing], many)


def some_sights(rng):
    """Sights of a list, perhaps with one spoiled."""
    thresholds = [oracle.pair(Fraction(rng.randint(1, 6), 2)) for _ in range(rng.randint(1, 4))]
    told = []
    for _ in range(rng.randint(0, 5)):
        drop = Fraction(rng.randint(-7, 7), 2)
        told.append((oracle.pair(drop), oracle.flow(thresholds, drop)))
    if told and rng.randrange(2):
        at = rng.randrange(len(told))
        told[at] = (told[at][0], told[at][1] + rng.choice((-1, 1, 1, 2)))
    return told


class SightsTest(OddCase):
    def test_ordinary(self):
        self.assertEqual(sights(TWO, (5, 0), 0), [])
        self.assertEqual(sights(TWO, (5, 0), 4), [((5, 1), 1), ((3, 1), 1), ((1, 1), 1), ((-1, 1), -1)])
        web = Web((2, 3, 0), ((0, 1, ((1, 2),)), (0, 2, ((5, 2),)), (0, 1, ((9, 1),))))
        self.assertEqual(sights(web, (3, 1, 0), 2), [((7, 6), 1), ((3, 2), 0), ((7, 6), 0),
                                                    ((1, 3), 0), ((1, 1), 0), ((1, 3), 0)])
        self.assertEqual(sights(Web((1, 0), ()), (5, 0), 1000), [])

    def test_against_the_words(self):
        for rng in many_times(150):
            web, ticks = some_web(rng), rng.randint(0, 6)
            filling = some_filling(rng, web)
            due, now = [], filling
            for _ in range(ticks):
                due += zip(map(oracle.pair, oracle.drops(web, now)), oracle.flows(web, now, None))
                now = oracle.tick(web, now, None)
            found = sights(web, filling, ticks)
            self.assertEqual((type(found), found), (list, due))

    def test_how_many_ticks(self):
        self.assertEqual(len(sights(TWO, (5, 0), 1000)), 1000)
        self.assertEqual(sights(TWO, (5, 0), 1000)[-2:], [((1, 1), 1), ((-1, 1), -1)])
        self.refuses("NoNumber", {}, sights, TWO, (5, 0), 1001)
        self.refuses("NoNumber", {}, sights, TWO, (5, 0), -1)
        many = Web((1,) * 12, tuple((k % 11, 11, STEPS) for k in range(36)))
        self.assertEqual(len(sights(many, (40,) * 6 + (0,) * 6, 1000)), 36000)

    def test_wrong_things(self):
        web = Web((1, 0, 2), ((0, 1, ONE), (0, 2, STEPS)))
        self.refuses_all("NoFilling", lambda thing: oracle.right_filling(web, thing), sights, (web,), (3, 0, 1), (3,))
        self.refuses_all("NoNumber", lambda thing: oracle.whole(thing, 0, 1000), sights, (web, (3, 0, 1)), 3, ())
        self.refuses("NoFilling", {}, sights, web, (3, 1, 1), None)


class FittedTest(OddCase):
    def test_example(self):
        self.assertEqual(fitted(E11, 3), (((1, 1), (2, 1)), ((2, 1), (4, 1)), ((4, 1), None)))

    def test_no_sights(self):
        for told in ([], ()):
            for many in range(1, 7):
                self.assertEqual(fitted(told, many), (((0, 1), None),) * many)
                self.assertIsNone(clash(told, many))

    def test_named_sights(self):
        for told, due in (
            ([((0, 1), 0)], (((0, 1), None),) * 2),
            ([((0, 1), 1)], None), ([((0, 1), -1)], None),
            ([((1, 1), -1)], None), ([((-1, 1), 1)], None), ([((-1, 1), -1)], (((0, 1), (1, 1)), ((1, 1), None))),
            ([((3, 2), 2), ((-3, 2), -2)], (((0, 1), (3, 2)),) * 2),
            ([((3, 2), 2), ((-3, 2), -1)], None), ([((3, 2), 1), ((3, 2), 2)], None),
            ([((3, 2), 1), ((3, 2), 1)], (((0, 1), (3, 2)), ((3, 2), None))),
            ([((9, 1), 3)], None), ([((-9, 1), -3)], None), ([((9, 1), 2)], (((0, 1), (9, 1)),) * 2),
            ([((2, 1), 1), ((1, 1), 2)], None), ([((-2, 1), -1), ((1, 1), 2)], None),
            ([((2, 1), 0), ((-1, 1), -1)], None), ([((1, 10 ** 39), 2)], (((0, 1), (1, 10 ** 39)),) * 2),
            ([((1, 3), 0), ((10 ** 39, 3), 2), ((333, 1000), 0)], (((1, 3), (10 ** 39, 3)),) * 2),
        ):
            self.assertEqual(fitted(told, 2), due, told)
            self.assertEqual(fitted(tuple(told), 2), due, told)
            self.assertEqual(clash(told, 2) is None, due is not None)

    def test_against_all_lists(self):
        some = none = 0
        for rng in many_times(250):
            told, many = some_sights(rng), rng.randint(1, 3)
            lots, found = fitting(told, many), fitted(told, many)
            self.assertEqual(found is None, not lots, told)
            if found is None:
                none += 1
                continue
            some += 1
            for lot in combinations_with_replacement(places(told), many):
                within = all(oracle.value(above) < oracle.value(threshold)
                             and (most is None or oracle.value(threshold) <= oracle.value(most))
                             for threshold, (above, most) in zip(lot, found))
                self.assertEqual(within, lot in lots, (told, lot))
            # The pairs are just those of drops with less flow, and with as much.
            for number, (above, most) in enumerate(found, 1):
                less = [abs(oracle.value(drop)) for drop, ran in told if abs(ran) < number]
                more = [abs(oracle.value(drop)) for drop, ran in told if abs(ran) >= number]
                self.assertEqual(oracle.value(above), max(less, default=0))
                self.assertEqual(most, oracle.pair(min(more)) if more else None)
        self.assertGreater(min(some, none), 60)

    def test_of_what_was_seen(self):
        for thresholds in LISTS:
            web = row_web(3, thresholds, 3)
            found = fitted(sights(web, (90, 4, -50), 200), len(thresholds))
            for threshold, (above, most) in zip(thresholds, found):
                self.assertLess(oracle.value(above), oracle.value(threshold))
                self.assertTrue(most is None or oracle.value(threshold) <= oracle.value(most))

    def test_a_thousand_sights(self):
        told = [((k, 7), 1) if k % 7 else ((k // 7, 1), 1) for k in range(7, 1007)]
        self.assertEqual(fitted(told, 6), (((0, 1), (1, 1)),) + (((1006, 7), None),) * 5)
        self.assertIsNone(clash(told, 6))
        for call, *more in ((fitted,), (clash,), (is_clash, None)):
            for wrong in ([*told, told[0]], (*told, told[0]), [None] * 1001):
                self.refuses("NoSights", {"index": -1}, call, wrong, 6, *more)
            self.assertEqual(answer(call, tuple(told), 6, *more)[0], "returned")
        self.assertEqual(clash([*told[1:], ((9, 1), 0)], 6)[0] in range(1000), True)


class ClashTest(OddCase):
    def test_against_all_lists(self):
        ones = twos = 0
        for rng in many_times(250):
            told, many = some_sights(rng), rng.randint(1, 3)
            found = clash(told, many)
            self.assertEqual(found is None, fitted(told, many) is not None)
            if found is not None:
                self.assertTrue(is_clash_due(told, many, found), (told, found))
                self.assertIs(is_clash(told, many, found), True)
                self.assertIs(is_clash(told, many, found[::-1]), True)
                ones += len(found) == 1
                twos += len(found) == 2
            for thing in [(), *product(range(-1, len(told) + 1)), *product(range(len(told)), repeat=2)]:
                self.assertEqual(is_clash(told, many, thing), is_clash_due(told, many, thing))
        self.assertGreater(ones, 10)
        self.assertGreater(twos, 10)

    def test_named_things(self):
        told = [((1, 1), 1), ((2, 1), 0), ((3, 1), -1), ((4, 1), 2), ((2, 1), 0)]
        for thing, due in (((0,), False), ((2,), True), ((0, 1), True), ((1, 0), True), ((0, 4), True), ((1, 4), False),
                           ((2, 2), False), ((0, 0), False), ((0, 1, 2), False), ((), False), ((2, 3), True),
                           ((3, 2), True), ((5,), False), ((-3,), False), ([2], False), (2, False), (None, False),
                           ((True, 0), False), ((0, True), False), ((2, None), False), ((2, 5), False)):
            self.assertIs(is_clash(told, 6, thing), due, thing)
        self.assertIs(is_clash(told, 1, (3,)), True)
        self.assertIs(is_clash(told, 2, (3,)), False)
        for thing in spoiled((0, 1)):
            self.assertIs(is_clash(told, 6, thing), is_clash_due(told, 6, thing), thing)

    def test_wrong_things(self):
        for call, more in ((fitted, ()), (clash, ()), (is_clash, (None,))):
            wrong = 0
            for told in spoiled(tuple(E11)):
                due = index_due(told)
                word = answer(call, told, 3, *more)
                if due is None:
                    self.assertEqual(word[0], "returned", told)
                else:
                    self.assertEqual(word, ("NoSights", {"index": due}), told)
                    wrong += due > 0
            self.assertGreater(wrong, 100)
            self.refuses_all("NoNumber", lambda thing: oracle.whole(thing, 1, 6), call, (E11,), 3, more)
            for told, index in ((None, -1), ({}, -1), ("ab", -1), ([None], 0), ([E11[0], (1, 2)], 1), ([[1, 2]], 0),
                                ([list(E11[0])], 0), ([((2, 2), 1)], 0), ([((2, 1), True)], 0), ([((2, 0), 0)], 0),
                                ([(E11[0][0], 1, 1)], 0), ([E11[0], ((1, 2), "1"), None], 1)):
                self.refuses("NoSights", {"index": index}, call, told, None, *more)
            for many in (0, 7, -1, None, True, "3"):
                self.refuses("NoNumber", {}, call, E11, many, *more)
        self.assertEqual(E11, [((2, 1), 1), ((4, 1), 2), ((1, 1), 0)])


class FlowsSeenTest(OddCase):
    def test_ordinary(self):
        self.assertEqual(flows_seen(TWO, (5, 0), (4, 1)), (1,))
        self.assertEqual(flows_seen(TWO, (5, 0), (-95, 100)), (100,))
        self.assertEqual(flows_seen(TWO, (5, 0), (5, 0)), (0,))
        self.assertIsNone(flows_seen(TWO, (5, 0), (4, 2)))
        self.assertIsNone(flows_seen(TWO, (5, 0), (5, 1)))
        self.assertEqual(flows_seen(row_web(1, ONE, 3), (3, 0, 0), (0, 1, 2)), (3, 2))
        self.assertEqual(flows_seen(Web((1, 0), ((0, 1, ONE),)), (5, 0), (-2, 0)), (7,))
        self.assertEqual(flows_seen(Web((0, 1), ((0, 1, ONE),)), (0, 5), (0, -2)), (-7,))

    def test_without_pipes(self):
        web = Web((1, 0, 2), ())
        self.assertEqual(flows_seen(web, (1, 0, 2), (1, 0, 2)), ())
        self.assertIsNone(flows_seen(web, (1, 0, 2), (1, 0, 1)))
        self.assertIsNone(flows_seen(web, (1, 0, 2), (2, 0, 1)))

    def test_flows_are_found_again(self):
        parts = seas = 0
        for rng in many_times(400):
            web = some_web(rng, 6, (0, 1, 1, 2, 3), most_pipes=5)
            lots = oracle.parts(web)
            if not is_ringless(web) or any(sum(not web.widths[k] for k in lot) > 1 for lot in lots):
                self.refuses("NotRingless", {}, flows_seen, web, None, None)
                continue
            high = rng.choice((3, 10 ** 39))
            due = tuple(rng.randint(-high, high) for _ in web.pipes)
            filling = some_filling(rng, web)
            net = [0] * len(web.widths)
            for (one, other, _), ran in zip(web.pipes, due):
                net[one] += ran
                net[other] -= ran
            later = tuple(water - out if width else 0 for width, water, out in zip(web.widths, filling, net))
            self.assertEqual(flows_seen(web, filling, later), due)
            parts += len(lots) > 1 and len(web.pipes) > 1
            for k, width in enumerate(web.widths):
                changed = (*later[:k], later[k] + 1, *later[k + 1:])
                lot = next(lot for lot in lots if k in lot)
                if width and all(web.widths[vessel] for vessel in lot):
                    self.assertIsNone(flows_seen(web, filling, changed))
                elif width:
                    self.assertIsNotNone(flows_seen(web, filling, changed))
                    seas += 1
            if filling and len(lots) > 1:
                self.assertEqual(flows_seen(web, filling, oracle.tick(web, filling, None)),
                                 oracle.flows(web, filling, None))
        self.assertGreater(min(parts, seas), 20)

    def test_parts_keep_their_water_apart(self):
        web = Web((1, 1, 1, 1), ((0, 1, ONE), (2, 3, ONE)))
        self.assertEqual(flows_seen(web, (1, 2, 3, 4), (2, 1, 0, 7)), (-1, 3))
        self.assertIsNone(flows_seen(web, (1, 2, 3, 4), (2, 2, 3, 3)))

    def test_a_large_web(self):
        web = star_web(0, 3, STEPS, 11)
        filling = (0, *range(50, 61))
        self.assertEqual(flows_seen(web, filling, oracle.tick(web, filling, None)), flows(web, filling, None))
        row = row_web(1, ONE, 12)
        self.assertEqual(flows_seen(row, (12,) + (0,) * 11, (1,) * 12), tuple(range(11, 0, -1)))

    def test_rings_and_seas(self):
        for web in (Web((1, 1), ((0, 1, ONE), (0, 1, ONE))), Web((1, 1, 1), ((0, 1, ONE), (1, 2, ONE), (0, 2, ONE))),
                    Web((0, 0), ((0, 1, ONE),)), Web((0, 1, 0), ((0, 1, ONE), (1, 2, ONE))),
                    Web((1, 0, 0, 1), ((0, 1, ONE), (1, 2, ONE)))):
            self.refuses("NotRingless", {}, flows_seen, web, None, None)
            self.refuses("NotRingless", {}, flows_seen, web, (0,) * len(web.widths), (0,) * len(web.widths))
        apart = Web((0, 1, 0, 1), ((0, 1, ONE), (2, 3, ONE)))
        self.assertEqual(flows_seen(apart, (0, 3, 0, 4), (0, 5, 0, 1)), (2, -3))
        self.assertEqual(flows_seen(Web((0, 0), ()), (0, 0), (0, 0)), ())

    def test_wrong_fillings(self):
        web = Web((1, 0, 2), ((0, 1, ONE), (0, 2, STEPS)))

        def right(thing):
            return oracle.right_filling(web, thing)

        self.refuses_all("NoFilling", right, flows_seen, (web,), (3, 0, -1), ((3, 0, -1),))
        self.refuses_all("NoFilling", right, flows_seen, (web, (3, 0, -1)), (3, 0, -1), ())
        self.refuses("NoFilling", {}, flows_seen, web, (3, 0), (3, 0, -1))
        self.refuses("NoFilling", {}, flows_seen, web, (3, 0, -1), (3, 1, -1))


if __name__ == "__main__":
    unittest.main()
