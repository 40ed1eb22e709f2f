"""Foes [10]: what comes when somebody opens pipes."""

import unittest
from itertools import combinations

import oracle
from making import many_times, some_filling, some_web
from odd import OddCase, STEPS, TWO, answer, odd_things, spoiled
from twotides.foes import (endless_play, endless_single, ends, is_endless_play, is_endless_single, longest_play,
                           longest_single, still_play, wakes)
from twotides.shapes import row_web, star_web
from twotides.webs import Web

ONE, TWOS = ((1, 1),), ((2, 1),)
SMALL = (ONE, TWOS, ((1, 1), (1, 1)), ((1, 2),), STEPS, ((3, 1),), ((1, 1), (2, 1)))
CALM = Web((1, 1, 1), ((0, 1, TWOS), (0, 2, TWOS)))
CHAIN = Web((1, 0), ((0, 1, ONE),))
LONE = Web((3, 0), ())
ROW = row_web(1, ONE, 3)


def openings(web, single):
    most = 1 if single else len(web.pipes)
    return [lot for many in range(most + 1) for lot in combinations(range(len(web.pipes)), many)]


def coming(web, filling, single, most=250):
    """By fillings that can come the set of those that a tick leads to; None if there are more than the most."""
    found, waiting = {}, [filling]
    while waiting:
        now = waiting.pop()
        if now not in found:
            found[now] = {oracle.tick(web, now, opening) for opening in openings(web, single)} - {now}
            waiting.extend(found[now])
            if len(found) > most:
                return None
    return found


def longest(ways, start):
    """The most ticks from the start on, by raising what is known as often as there are fillings; None without end."""
    ticks = dict.fromkeys(ways, 0)
    for _ in range(len(ways) + 1):
        raised = {now: max([ticks[later] + 1 for later in ways[now]], default=0) for now in ways}
        if raised == ticks:
            return ticks[start]
        ticks = raised
    return None


def is_rest(web, filling):
    return not any(oracle.flows(web, filling, None))


def nearest_rest(web, ways, start):
    """The fewest ticks to a rest, None if none comes."""
    met, now, ticks = {start}, {start}, 0
    while now:
        if any(is_rest(web, filling) for filling in now):
            return ticks
        now = {later for filling in now for later in ways[filling]} - met
        met |= now
        ticks += 1
    return None


def is_endless(web, filling, thing, single):
    if type(thing) is not tuple or len(thing) != 2 or not all(type(part) is tuple for part in thing):
        return False
    for opening in thing[0] + thing[1]:
        if not oracle.right_opening(web, opening) or single and (opening is None or len(opening) > 1):
            return False
    for opening in thing[0]:
        filling = oracle.tick(web, filling, opening)
    now, measures = filling, 0
    for opening in thing[1]:
        measures += sum(map(abs, oracle.flows(web, now, opening)))
        now = oracle.tick(web, now, opening)
    return bool(thing[1]) and now == filling and measures > 0


def leads_to(web, filling, play):
    for opening in play:
        assert oracle.right_opening(web, opening)
        filling = oracle.tick(web, filling, opening)
    return filling


class FoesCase(OddCase):
    def tried(self, times, single):
        """Webs and fillings from which few fillings can come, with these."""
        many = 0
        for rng in many_times(times):
            web = some_web(rng, 4, (0, 1, 1, 1, 2), SMALL, 4)
            filling = some_filling(rng, web, rng.choice((2, 4, 6)))
            ways = coming(web, filling, single)
            if ways is not None:
                many += 1
                yield web, filling, ways
        self.assertGreater(many, times // 3)

    def refuses_fillings(self, call, web, filling, *behind):
        refused = 0
        for thing in spoiled(filling):
            if not oracle.right_filling(web, thing):
                self.refuses("NoFilling", {}, call, web, thing, *behind)
                refused += 1
            elif max(map(abs, thing)) < 2000:
                self.assertEqual(answer(call, web, thing, *behind)[0], "returned", thing)
        self.assertGreater(refused, 100)


class LongestPlayTest(FoesCase):
    def test_ordinary(self):
        self.assertEqual(longest_play(CHAIN, (7, 0)), 7)
        self.assertEqual(longest_play(CHAIN, (-7, 0)), 7)
        self.assertEqual(longest_play(CALM, (2, 0, 0)), 1)
        self.assertEqual(longest_play(CALM, (4, 0, 0)), 3)
        self.assertIsNone(longest_play(TWO, (5, 0)))
        self.assertIsNone(longest_play(TWO, (1, 0)))
        self.assertEqual(longest_play(TWO, (4, 0)), 2)

    def test_rests(self):
        for web, filling in ((TWO, (2, 2)), (CALM, (1, 1, 0)), (LONE, (9, 0)), (Web((1,), ()), (5,)),
                             (Web((0, 0), ((0, 1, ONE),)), (0, 0))):
            self.assertEqual((longest_play(web, filling), longest_single(web, filling)), (0, 0))
            self.assertIsNone(endless_play(web, filling))
            self.assertIsNone(endless_single(web, filling))
            self.assertEqual(still_play(web, filling), ())
            self.assertEqual(ends(web, filling), [filling])

    def test_by_trying_all(self):
        seen = set()
        for web, filling, ways in self.tried(150, False):
            found = longest_play(web, filling)
            self.assertEqual(found, longest(ways, filling), (web.widths, web.pipes, filling))
            seen.add(found)
        self.assertGreater(len(seen), 4)
        self.assertIn(None, seen)

    def test_more_than_any_ticks_with_all_open(self):
        # With all pipes open the first tick would do more at once.
        web = star_web(3, 0, ONE, 3)
        self.assertEqual(longest_play(web, (6, 0, 0, 0)), 4)
        self.assertIsNone(longest_play(Web((1, 0, 0), ((0, 1, ONE), (0, 2, ONE))), (1, 0, 0)))

    def test_too_many(self):
        for call in (longest_play, endless_play, still_play, ends, longest_single, endless_single):
            self.refuses("TooMany", {"most": 3000}, call, CHAIN, (3000, 0))
            self.refuses("TooMany", {"most": 3000}, call, CHAIN, (-3000, 0))
            self.assertEqual(answer(call, CHAIN, (2999, 0))[0], "returned")
            self.refuses("TooMany", {"most": 3000}, call, star_web(1, 1, ONE, 6), (900, 0, 0, 0, 0, 0, 0))
            self.assertEqual(answer(call, CHAIN, (1000, 0))[0], "returned")
        self.assertEqual(longest_play(CHAIN, (2999, 0)), 2999)

    def test_just_the_limit_apart(self):
        pairs = Web((1,) * 4, ((0, 1, ONE), (2, 3, ONE)))
        self.assertEqual(longest_play(pairs, (98, 0, 118, 0)), 49 + 59)
        self.assertEqual(longest_single(pairs, (98, 0, 118, 0)), 49 + 59)
        self.assertEqual(ends(pairs, (98, 0, 118, 0)), [(49, 49, 59, 59)])
        self.refuses("TooMany", {"most": 3000}, longest_play, pairs, (98, 0, 120, 0))
        self.refuses("TooMany", {"most": 3000}, longest_single, pairs, (98, 0, 120, 0))

    def test_six_pipes(self):
        web = star_web(1, 1, TWOS, 6)
        self.assertEqual(longest_play(web, (7, 0, 0, 0, 0, 0, 0)), None)
        self.assertEqual(longest_single(web, (5, 0, 0, 0, 0, 0, 0)), 4)
        row, filling = row_web(1, TWOS, 7), (5, 0, 0, 0, 0, 0, -2)
        self.assertEqual(longest_play(row, filling), longest(coming(row, filling, False), filling))

    def test_wrong_fillings(self):
        for call in (longest_play, longest_single):
            self.refuses_fillings(call, CHAIN, (5, 0))


class EndlessPlayTest(FoesCase):
    def test_ordinary(self):
        lead, again = endless_play(TWO, (5, 0))
        self.assertTrue(is_endless(TWO, (5, 0), (lead, again), False))
        self.assertIsNone(endless_play(TWO, (4, 0)))
        self.assertIsNone(endless_play(CHAIN, (5, 0)))

    def test_by_trying_all(self):
        some = leads = 0
        for web, filling, ways in self.tried(150, False):
            found = endless_play(web, filling)
            self.assertEqual(found is None, longest(ways, filling) is not None)
            if found is not None:
                self.assertTrue(is_endless(web, filling, found, False))
                self.assertIs(is_endless_play(web, filling, found), True)
                some += 1
                leads += found[0] != ()
        self.assertGreater(some, 10)
        self.assertGreater(leads, 5)

    def test_none_is_an_opening(self):
        for thing, due in ((((), (None, None)), True), (((None,), (None, None)), True), (((None,), (None,)), False),
                           (((), ((0,), None)), True), (((), (None, None) * 2), True), (((), (None,) * 3), False),
                           (((), ((), None, (), (0,))), True), (((), ((),)), False), (((), ()), False),
                           (((None,), ()), False), ((((),) * 50, ((0,),) * 6), True), (((), ((0,), (0,), ())), True)):
            self.assertIs(is_endless_play(TWO, (1, 0), thing), due, thing)
            self.assertEqual(is_endless(TWO, (1, 0), thing, False), due)
        self.assertIs(is_endless_play(TWO, (5, 0), ((), (None, None))), False)
        self.assertIs(is_endless_play(TWO, (5, 0), ((None,) * 2, (None, None))), True)
        self.assertIs(is_endless_play(TWO, (5, 0), ((None,) * 3, (None, None))), True)
        self.assertIs(is_endless_play(TWO, (4, 0), ((None,) * 2, (None, None))), False)

    def test_wrong_plays(self):
        right = ((), ((0,), None))
        for thing in spoiled(right):
            self.assertIs(is_endless_play(TWO, (1, 0), thing), is_endless(TWO, (1, 0), thing, False), thing)
        for thing in (list(right), (right[0],), (*right, ()), ([], right[1]), ((), list(right[1])), ((), ([0], None)),
                      ((), ((False,), None)), ((), ((1,), None)), ((), ((0, 0), None)), ((None,), ((0,), None), 0), {}):
            self.assertIs(is_endless_play(TWO, (1, 0), thing), False, thing)

    def test_wrong_fillings(self):
        self.refuses_fillings(endless_play, TWO, (4, 0))
        self.refuses_fillings(is_endless_play, TWO, (4, 0), ((), (None, None)))
        for thing in odd_things():
            self.refuses("NoFilling", {}, is_endless_play, TWO, (0,), thing)

    def test_no_limit_to_judge(self):
        self.assertIs(is_endless_play(TWO, (9999, 0), ((None,) * 4999, (None, None))), True)
        self.assertIs(is_endless_play(TWO, (9999, 0), ((None,) * 4998, (None, None))), False)
        self.assertIs(is_endless_single(TWO, (9999, 0), (((0,),) * 4999, ((0,),) * 2)), True)


class StillPlayTest(FoesCase):
    def test_ordinary(self):
        self.assertEqual(still_play(CHAIN, (2, 0)), ((0,), (0,)))
        self.assertIsNone(still_play(TWO, (1, 0)))
        self.assertIsNone(still_play(TWO, (5, 0)))
        self.assertEqual(len(still_play(TWO, (6, 0))), 3)
        self.assertEqual(ends(TWO, (5, 0)), [])

    def test_both_pipes_at_once(self):
        # Pipe by pipe it takes as many ticks as there are pipes.
        web = star_web(2, 1, ((1, 1),), 2)
        play = still_play(web, (4, 0, 0))
        self.assertEqual(len(play), 1)
        self.assertEqual(leads_to(web, (4, 0, 0), play), (2, 1, 1))

    def test_by_trying_all(self):
        some = none = 0
        for web, filling, ways in self.tried(150, False):
            due = nearest_rest(web, ways, filling)
            found = still_play(web, filling)
            if due is None:
                self.assertIsNone(found)
                none += 1
            else:
                self.assertIs(type(found), tuple)
                self.assertEqual(len(found), due)
                self.assertTrue(is_rest(web, leads_to(web, filling, found)))
                some += due > 1
        self.assertGreater(some, 10)
        self.assertGreater(none, 2)

    def test_too_many_though_a_rest_is_near(self):
        web = Web((1, 0, 1, 0), ((0, 1, ONE), (2, 3, ONE)))
        self.refuses("TooMany", {"most": 3000}, still_play, web, (60, 0, 60, 0))
        self.assertEqual(len(still_play(web, (40, 0, 60, 0))), 60)

    def test_wrong_fillings(self):
        self.refuses_fillings(still_play, CHAIN, (5, 0))


class WakesTest(FoesCase):
    def test_ordinary(self):
        self.assertEqual(wakes(TWO, (2, 2)), [(0, -1), (0, 1), (1, -1), (1, 1)])
        self.assertEqual(wakes(CALM, (2, 1, 2)), [(0, 1), (1, -1)])
        self.assertEqual(wakes(CALM, (1, 1, 1)), [])
        self.assertEqual(wakes(CHAIN, (0, 0)), [(0, -1), (0, 1)])
        self.assertEqual(wakes(Web((0, 0), ((0, 1, ONE),)), (0, 0)), [])
        self.assertEqual(wakes(LONE, (7, 0)), [])
        self.assertEqual(wakes(Web((3, 1), ((0, 1, ((2, 3),)),)), (1, 0)), [(0, 1), (1, -1), (1, 1)])

    def test_by_trying_all(self):
        some = 0
        for rng in many_times(300):
            web = some_web(rng, 4, (0, 1, 1, 2, 3), SMALL, 4)
            filling = some_filling(rng, web, 2)
            if not is_rest(web, filling):
                self.refuses("NotRest", {}, wakes, web, filling)
                continue
            due = [(vessel, many) for vessel, width in enumerate(web.widths) for many in (-1, 1) if width and not
                   is_rest(web, (*filling[:vessel], filling[vessel] + many, *filling[vessel + 1:]))]
            self.assertEqual(wakes(web, filling), due)
            some += 0 < len(due) < 2 * len(web.widths)
        self.assertGreater(some, 20)

    def test_order_of_errors(self):
        self.refuses("NotRest", {}, wakes, TWO, (1, 0))
        self.refuses("NoFilling", {}, wakes, TWO, (1, 0, 0))
        self.refuses("NoFilling", {}, wakes, CHAIN, (0, 1))
        for thing in spoiled((1, 1)):
            if not oracle.right_filling(TWO, thing):
                self.refuses("NoFilling", {}, wakes, TWO, thing)
            elif not is_rest(TWO, thing):
                self.refuses("NotRest", {}, wakes, TWO, thing)


class EndsTest(FoesCase):
    def test_ordinary(self):
        self.assertEqual(ends(CHAIN, (5, 0)), [(0, 0)])
        self.assertEqual(ends(Web((1, 1), ((0, 1, TWOS),)), (7, 0)), [(4, 3)])
        self.assertEqual(ends(CALM, (2, 0, 0)), [(0, 1, 1), (1, 0, 1), (1, 1, 0)])

    def test_by_trying_all(self):
        some = 0
        for web, filling, ways in self.tried(150, False):
            due = sorted(later for later in ways if is_rest(web, later))
            self.assertEqual(ends(web, filling), due)
            some += len(due) > 1
        self.assertGreater(some, 10)

    def test_wrong_fillings(self):
        self.refuses_fillings(ends, CHAIN, (5, 0))


class SinglePlaysTest(FoesCase):
    def test_ordinary(self):
        self.assertEqual(longest_single(CHAIN, (7, 0)), 7)
        self.assertIsNone(longest_single(TWO, (5, 0)))
        self.assertTrue(is_endless(TWO, (5, 0), endless_single(TWO, (5, 0)), True))
        star = star_web(1, 1, TWOS, 3)
        self.assertIsNone(longest_play(star, (2, 0, 0, 0)))
        self.assertEqual(longest_single(star, (2, 0, 0, 0)), 1)
        self.assertIsNone(endless_single(star, (2, 0, 0, 0)))
        self.assertIsNotNone(endless_play(star, (2, 0, 0, 0)))

    def test_by_trying_all(self):
        some = unlike = 0
        for web, filling, ways in self.tried(200, True):
            due = longest(ways, filling)
            self.assertEqual(longest_single(web, filling), due, (web.widths, web.pipes, filling))
            found = endless_single(web, filling)
            self.assertEqual(found is None, due is not None)
            if found is not None:
                self.assertTrue(is_endless(web, filling, found, True))
                self.assertIs(is_endless_single(web, filling, found), True)
                some += 1
            elif coming(web, filling, False) is not None:
                unlike += longest_play(web, filling) != due
        self.assertGreater(some, 10)
        self.assertGreater(unlike, 0)

    def test_none_is_no_opening(self):
        for thing, due in ((((), (None, None)), False), (((), ((0,), (0,))), True), (((), ((0,), None)), False),
                           (((None,), ((0,), (0,))), False), ((((0,),), ((0,), (0,))), True),
                           (((), ((0,), (), (0,))), True), (((), ((),)), False), (((), ()), False),
                           (((), ((0,), (0,)) * 2), True), (((), ((0,),) * 3), False)):
            self.assertIs(is_endless_single(TWO, (1, 0), thing), due, thing)

    def test_one_pipe_at_most(self):
        play = ((), ((0, 1), (0, 1), (0, 1), (0, 1)))
        both = Web((1, 1), ((0, 1, ONE), (0, 1, ONE)))
        self.assertIs(is_endless_play(both, (1, 0), ((), ((0,), (1,)))), True)
        self.assertIs(is_endless_single(both, (1, 0), ((), ((0,), (1,)))), True)
        self.assertIs(is_endless_play(both, (2, 0), play), True)
        self.assertIs(is_endless_single(both, (2, 0), play), False)
        self.assertIs(is_endless_single(both, (2, 0), (((0, 1),), ((0,), (1,)))), False)

    def test_wrong_plays(self):
        right = (((),), ((0,), (0,)))
        for thing in spoiled(right):
            self.assertIs(is_endless_single(TWO, (1, 0), thing), is_endless(TWO, (1, 0), thing, True), thing)

    def test_wrong_fillings(self):
        self.refuses_fillings(endless_single, TWO, (4, 0))
        self.refuses_fillings(is_endless_single, TWO, (4, 0), ((), ((0,), (0,))))
        for thing in odd_things():
            self.refuses("NoFilling", {}, is_endless_single, TWO, (0,), thing)

    def test_without_pipes(self):
        self.assertIs(is_endless_single(LONE, (5, 0), ((), ((),))), False)
        self.assertIs(is_endless_play(LONE, (5, 0), ((), (None,))), False)
        self.assertIs(is_endless_single(LONE, (5, 0), ((), ((0,),))), False)


if __name__ == "__main__":
    unittest.main()
