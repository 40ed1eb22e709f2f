"""Sways [3.1], basins and the latest sway [3.2]."""

import unittest
from itertools import product

import oracle
from making import LISTS, many_times, some_filling, some_web
from odd import OddCase, STEPS, TWO, answer, spoiled
from twotides.shapes import row_web
from twotides.sways import after, basins, is_sway, latest, sway
from twotides.webs import Web

ONE = ((1, 1),)
SEAS = Web((0, 2, 0, 3), ((0, 1, ONE), (0, 2, ONE), (1, 3, STEPS), (1, 3, ONE), (2, 3, ONE)))
FILLING = (0, -9, 0, 7)


def led(web, filling):
    """The first of sway, the filling then, and the other one, in the words of the document."""
    way = [filling, oracle.tick(web, filling, None), oracle.tick(web, oracle.tick(web, filling, None), None)]
    while way[-1] != way[-3]:
        way.append(oracle.tick(web, way[-1], None))
    return len(way) - 3, way[-3], way[-2]


def all_fillings(web, high):
    return list(product(*(range(high + 1) if width else (0,) for width in web.widths)))


class SwayTest(OddCase):
    def test_example(self):
        self.assertEqual((sway(TWO, (5, 0)), after(TWO, (5, 0), 10 ** 30)), ((2, (3, 2), (2, 3)), (3, 2)))

    def test_a_rest(self):
        self.assertEqual(sway(TWO, (4, 0)), (2, (2, 2), (2, 2)))
        self.assertEqual(sway(TWO, (2, 2)), (0, (2, 2), (2, 2)))
        self.assertEqual(sway(Web((3, 0), ()), (-7, 0)), (0, (-7, 0), (-7, 0)))
        self.assertEqual(sway(Web((0,), ()), (0,)), (0, (0,), (0,)))

    def test_a_filling_that_sways_at_once(self):
        self.assertEqual(sway(TWO, (2, 3)), (0, (2, 3), (3, 2)))
        self.assertEqual(sway(TWO, (3, 2)), (0, (3, 2), (2, 3)))

    def test_seas(self):
        self.assertEqual(sway(SEAS, FILLING), led(SEAS, FILLING))
        self.assertEqual(sway(Web((0, 1), ((0, 1, ONE),)), (0, -5)), (5, (0, 0), (0, 0)))

    def test_a_first_of_some_hundreds(self):
        self.assertEqual(sway(TWO, (1000, 0)), (500, (500, 500), (500, 500)))
        row = row_web(3, ONE, 6)
        first, one, other = sway(row, (1000, 0, 0, 0, 0, -1000))
        self.assertEqual((first, one, other), led(row, (1000, 0, 0, 0, 0, -1000)))
        self.assertGreater(first, 500)

    def test_a_first_beyond_the_most(self):
        self.assertEqual(sway(TWO, (40000, 0)), (20000, (20000, 20000), (20000, 20000)))
        self.assertEqual(sway(TWO, (40001, 0)), (20000, (20001, 20000), (20000, 20001)))
        self.assertEqual(sway(Web((1, 0), ((0, 1, ONE),)), (20000, 0))[0], 20000)
        for wrong in ((40002, 0), (0, 40002), (10 ** 39, 0)):
            self.refuses("TooMany", {"most": 20000}, sway, TWO, wrong)

    def test_against_the_words(self):
        unlike = 0
        for rng in many_times(300):
            web = some_web(rng, 6, (0, 1, 1, 2, 3), LISTS[:6])
            filling = some_filling(rng, web)
            due = led(web, filling)
            self.assertEqual(sway(web, filling), due)
            unlike += due[1] != due[2]
        self.assertGreater(unlike, 30)

    def test_wrong_fillings(self):
        def right(thing):
            return oracle.right_filling(SEAS, thing) and max(map(abs, thing)) < 10 ** 6

        for other in spoiled(FILLING):
            word, fields = answer(sway, SEAS, other)
            if right(other):
                self.assertEqual((word, fields), ("returned", led(SEAS, other)))
            elif not oracle.right_filling(SEAS, other):
                self.assertEqual((word, fields), ("NoFilling", {}), other)
            else:
                self.assertEqual((word, fields), ("TooMany", {"most": 20000}), other)


class AfterTest(OddCase):
    def test_each_number_of_ticks(self):
        for web, filling in ((TWO, (9, 0)), (TWO, (8, 0)), (SEAS, FILLING), (Web((1,), ()), (3,))):
            now = filling
            for ticks in range(30):
                self.assertEqual(after(web, filling, ticks), now)
                now = oracle.tick(web, now, None)

    def test_edges(self):
        self.assertEqual(after(TWO, (5, 0), 0), (5, 0))
        self.assertEqual(after(TWO, (5, 0), 10 ** 30), (3, 2))
        self.assertEqual(after(TWO, (5, 0), 10 ** 30 - 1), (2, 3))
        for ticks in (-1, 10 ** 30 + 1, 10 ** 39, True, False, None, "1", (1,), [1]):
            self.refuses("NoNumber", {}, after, TWO, (5, 0), ticks)

    def test_a_first_beyond_the_most(self):
        far = (100000, 0)
        self.assertEqual(after(TWO, far, 0), far)
        self.assertEqual(after(TWO, far, 19999), (80001, 19999))
        self.assertEqual(after(TWO, far, 20000), (80000, 20000))
        self.refuses("TooMany", {"most": 20000}, after, TWO, far, 20001)
        self.refuses("TooMany", {"most": 20000}, after, TWO, far, 10 ** 30)
        self.refuses("NoNumber", {}, after, TWO, far, 10 ** 30 + 1)
        self.assertEqual(after(TWO, (40001, 0), 20001), (20000, 20001))
        self.assertEqual(after(TWO, (40001, 0), 10 ** 30), (20001, 20000))
        self.refuses("TooMany", {"most": 20000}, after, TWO, (40002, 0), 20001)

    def test_wrong_things(self):
        def right(thing):
            return oracle.right_filling(SEAS, thing)

        self.refuses_all("NoFilling", right, after, (SEAS,), FILLING, (3,))
        self.refuses_all("NoNumber", lambda thing: oracle.whole(thing, 0, 10 ** 30), after, (SEAS, FILLING), 3, ())
        self.refuses("NoFilling", {}, after, TWO, None, None)


class IsSwayTest(OddCase):
    def test_ordinary(self):
        for thing in (((2, 3), (3, 2)), ((3, 2), (2, 3)), ((2, 2), (2, 2)), ((-4, -4), (-4, -4)), ((0, -1), (-1, 0))):
            self.assertIs(is_sway(TWO, thing), True, thing)
        for thing in (((2, 3), (2, 3)), ((5, 0), (4, 1)), ((4, 1), (5, 0)), ((2, 2), (3, 3)), ((3, 1), (2, 2)),
                      ((2, 2),), ((2, 2),) * 3, [(2, 2), (2, 2)], ([2, 2], [2, 2]), ((2, 3), (3, 2, 0)),
                      ((True, True),) * 2, ((1, 0), (0, True)), None, TWO):
            self.assertIs(is_sway(TWO, thing), False, thing)

    def test_seas(self):
        web = Web((0, 1), ((0, 1, ONE), (0, 1, ONE)))
        self.assertIs(is_sway(web, ((0, 1), (0, -1))), True)
        self.assertIs(is_sway(web, ((1, 1), (1, -1))), False)
        self.assertIs(is_sway(web, ((0, 0), (0, 0))), True)

    def test_what_sway_returns(self):
        for rng in many_times(100):
            web = some_web(rng, 6, (0, 1, 2), LISTS[:4])
            _, one, other = sway(web, some_filling(rng, web))
            self.assertIs(is_sway(web, (one, other)), True)
            self.assertIs(is_sway(web, (one, one)), one == other)

    def test_wrong_things(self):
        def right(web, thing):
            if type(thing) is not tuple or len(thing) != 2 or not all(oracle.right_filling(web, f) for f in thing):
                return False
            return tuple(oracle.tick(web, filling, None) for filling in thing) == thing[::-1]

        for web, thing in ((TWO, ((2, 3), (3, 2))), (TWO, ((1, 1), (1, 1))), (Web((0,), ()), ((0,), (0,)))):
            for other in spoiled(thing):
                self.assertIs(is_sway(web, other), right(web, other), other)


class BasinsTest(OddCase):
    def due(self, web, high):
        counts, late = {}, (-1, None)
        for filling in all_fillings(web, high):
            first, one, other = led(web, filling)
            key = (min(one, other), max(one, other))
            counts[key] = counts.get(key, 0) + 1
            if first > late[0]:
                late = first, filling
        return counts, late

    def test_ordinary(self):
        self.assertEqual(basins(TWO, 1), {((0, 0), (0, 0)): 1, ((0, 1), (1, 0)): 2, ((1, 1), (1, 1)): 1})
        self.assertEqual(latest(TWO, 1), (0, (0, 0)))
        self.assertEqual(latest(TWO, 9), (4, (0, 8)))

    def test_high_0(self):
        for web in (TWO, SEAS, Web((0, 0), ()), Web((1,) * 12, ())):
            still = (0,) * len(web.widths)
            self.assertEqual(basins(web, 0), {(still, still): 1})
            self.assertEqual(latest(web, 0), (0, still))

    def test_seas_alone(self):
        web = Web((0, 0), ((0, 1, ONE),))
        self.assertEqual(basins(web, 10 ** 39), {((0, 0), (0, 0)): 1})
        self.assertEqual(latest(web, 10 ** 39), (0, (0, 0)))

    def test_just_so_many_fillings(self):
        one = Web((1, 0), ((0, 1, ONE),))
        self.assertEqual(basins(one, 4999), {((0, 0), (0, 0)): 5000})
        self.assertEqual(latest(one, 4999), (4999, (4999, 0)))
        seventy = basins(TWO, 69)
        self.assertEqual(sum(seventy.values()), 4900)
        self.assertEqual(latest(TWO, 69)[0], 34)
        for call in (basins, latest):
            self.refuses("TooMany", {"most": 5000}, call, one, 5000)
            self.refuses("TooMany", {"most": 5000}, call, TWO, 70)
            self.refuses("TooMany", {"most": 5000}, call, Web((1,) * 12, ()), 10 ** 39)
            self.refuses("TooMany", {"most": 5000}, call, Web((1, 1, 1, 1), ()), 8)
        self.assertEqual(len(basins(Web((1,) * 12, ()), 1)), 4096)

    def test_against_the_words(self):
        for rng in many_times(60):
            web = some_web(rng, 4, (0, 1, 1, 2, 3), LISTS[:6])
            high = rng.randint(0, 4)
            counts, late = self.due(web, high)
            self.assertEqual(basins(web, high), counts)
            self.assertEqual(latest(web, high), late)

    def test_a_greater_first(self):
        # Nothing within the limits is known to take so long: the most is made less instead.
        import twotides.sways as sways

        for most in (3, 7):
            sways.MOST_TICKS = most
            try:
                self.assertEqual(latest(TWO, 2 * most + 1)[0], most)
                self.assertEqual(sum(basins(TWO, 2 * most + 1).values()), (2 * most + 2) ** 2)
                for call in (basins, latest):
                    self.refuses("TooMany", {"most": most}, call, TWO, 2 * most + 2)
                    self.refuses("TooMany", {"most": most}, call, TWO, 60)
            finally:
                sways.MOST_TICKS = 20000

    def test_new_each_time(self):
        basins(TWO, 1).clear()
        self.assertEqual(len(basins(TWO, 1)), 3)

    def test_wrong_things(self):
        for call in (basins, latest):
            for other in spoiled(1):
                word, fields = answer(call, TWO, other)
                if not oracle.whole(other, 0):
                    self.assertEqual((word, fields), ("NoNumber", {}), other)
                elif other > 69:
                    self.assertEqual((word, fields), ("TooMany", {"most": 5000}), other)
                else:
                    self.assertEqual(word, "returned")
            self.refuses("NoNumber", {}, call, TWO, -1)
            self.refuses("NoNumber", {}, call, TWO, True)


if __name__ == "__main__":
    unittest.main()
