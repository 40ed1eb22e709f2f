"""Lists of thresholds [1.1]."""

import unittest
from fractions import Fraction

import oracle
from making import LISTS, many_times, some_list
from odd import OddCase, STEPS, answer, spoiled
from twotides.lists import flow, rounded, spaced


class FlowTest(OddCase):
    def test_example(self):
        self.assertEqual((flow(STEPS, (-9, 2)), rounded(((1, 3), (1, 1)), 2, 1)), (-2, ((1, 2), (1, 1))))

    def test_just_at_a_threshold_below_it_and_above_it(self):
        self.assertEqual([flow(STEPS, drop) for drop in ((2, 1), (199, 100), (201, 100), (5, 1), (99, 1))],
                         [1, 0, 1, 3, 3])
        self.assertEqual([flow(STEPS, drop) for drop in ((-2, 1), (-199, 100), (-4, 1), (-5, 1))], [-1, 0, -2, -3])
        self.assertEqual(flow(((1, 144),), (0, 1)), 0)

    def test_alike_thresholds_count_as_often_as_they_stand(self):
        self.assertEqual(flow(((1, 1), (1, 1), (1, 1), (2, 1)), (-1, 1)), -3)
        self.assertEqual(flow(((1, 1),) * 6, (1, 1)), 6)

    def test_against_the_words(self):
        for rng in many_times(300):
            thresholds, drop = some_list(rng), Fraction(rng.randint(-40, 40), rng.randint(1, 9))
            self.assertEqual(flow(thresholds, oracle.pair(drop)), oracle.flow(thresholds, drop))

    def test_large_drops(self):
        large = 10 ** 40 - 1
        self.assertEqual(flow(STEPS, (large, 1)), 3)
        self.assertEqual(flow(STEPS, (-large, large - 1)), 0)
        self.assertEqual(flow(STEPS, (-2 * large - 1, large)), -1)
        self.assertEqual(flow(((1, 144),), (1, large)), 0)

    def test_edges_of_lists(self):
        for right in (((10 ** 6, 1),), ((1, 144),), ((10 ** 6, 143),), ((1, 1),) * 6, ((1, 2), (1, 2), (2, 3))):
            self.assertEqual(flow(right, (0, 1)), 0, right)
        for wrong in ((), ((10 ** 6 + 1, 1),), ((1, 145),), ((1, 1),) * 7, ((2, 3), (1, 2)), ((0, 1),), ((-1, 1),),
                      ((2, 2),), [(1, 1)], ([1, 1],), ((1, 1, 1),), ((1,),), (1, 1), ((True, 1),), ((1, True),),
                      ((1, 0),), ((-1, -1),), ((10 ** 40 - 1, 1),)):
            self.refuses("NoList", {}, flow, wrong, (0, 1))

    def test_thresholds_ascend_by_their_values(self):
        self.assertEqual(flow(((5, 2), (3, 1)), (5, 2)), 1)
        self.refuses("NoList", {}, flow, ((3, 1), (5, 2)), (5, 2))

    def test_wrong_things(self):
        self.refuses_all("NoList", oracle.right_list, flow, (), STEPS, ((1, 1),))
        taken = self.refuses_all("NoFraction", oracle.right_fraction, flow, (STEPS,), (3, 2), ())
        self.assertGreater(taken, 3)

    def test_a_wrong_list_comes_ahead_of_a_wrong_drop(self):
        self.refuses("NoList", {}, flow, (), None)
        self.refuses("NoFraction", {}, flow, STEPS, 1)
        self.refuses("NoFraction", {}, flow, STEPS, (2, 4))
        self.refuses("NoFraction", {}, flow, STEPS, (0, 2))


class SpacedTest(OddCase):
    def test_ordinary(self):
        self.assertEqual(spaced((1, 2), (1, 3), 4), ((1, 2), (5, 6), (7, 6), (3, 2)))
        self.assertEqual(spaced((3, 1), (2, 1), 3), ((3, 1), (5, 1), (7, 1)))

    def test_a_step_of_nothing_and_one_threshold(self):
        self.assertEqual(spaced((1, 2), (0, 1), 6), ((1, 2),) * 6)
        self.assertEqual(spaced((1, 144), (1, 1000), 1), ((1, 144),))

    def test_no_list(self):
        self.refuses("NoList", {}, spaced, (1, 145), (0, 1), 1)
        self.refuses("NoList", {}, spaced, (10 ** 6, 1), (1, 1), 2)
        self.refuses("NoList", {}, spaced, (1, 100), (1, 99), 2)
        self.assertEqual(spaced((10 ** 6 - 5, 1), (1, 1), 6)[5], (10 ** 6, 1))
        self.refuses("NoList", {}, spaced, (10 ** 40 - 1, 1), (10 ** 40 - 1, 1), 6)

    def test_signs(self):
        self.refuses("NoFraction", {}, spaced, (0, 1), (1, 1), 1)
        self.refuses("NoFraction", {}, spaced, (-1, 1), (1, 1), 1)
        self.refuses("NoFraction", {}, spaced, (1, 1), (-1, 1), 1)
        for many in (0, 7, -1, True, None, 10 ** 39):
            self.refuses("NoNumber", {}, spaced, (1, 1), (1, 1), many)

    def test_order(self):
        self.refuses("NoFraction", {}, spaced, (1, 145), (2, 2), 0)
        self.refuses("NoFraction", {}, spaced, None, (1, 1), 0)
        self.refuses("NoNumber", {}, spaced, (1, 145), (0, 1), 0)

    def test_wrong_things(self):
        def first(thing):
            return oracle.right_fraction(thing) and thing[0] > 0

        def step(thing):
            return oracle.right_fraction(thing) and thing[0] >= 0

        for other in spoiled((3, 2)):
            word, told = answer(spaced, other, (1, 1), 2)
            self.assertEqual(word == "NoFraction", not first(other), other)
            self.assertIn(word, ("NoFraction", "NoList", "returned"))
            word, told = answer(spaced, (1, 1), other, 2)
            self.assertEqual(word == "NoFraction", not step(other), other)
            self.assertIn(word, ("NoFraction", "NoList", "returned"))
        self.refuses_all("NoNumber", lambda thing: oracle.whole(thing, 1, 6), spaced, ((1, 1), (1, 1)), 2, ())


class RoundedTest(OddCase):
    def test_grains(self):
        self.assertEqual(rounded(((1, 5),), 4, 6), ((1, 4),))
        self.assertEqual(rounded(((1, 5),), 0, 7), ((2, 7),))
        self.assertEqual(rounded(((1, 5),), 7, 0), ((2, 7),))
        self.assertEqual(rounded(((1, 5), (1, 1), (8, 7)), 0, 0), ((1, 1), (1, 1), (2, 1)))
        self.assertEqual(rounded(((131, 132),), 12, 11), ((131, 132),))
        self.assertEqual(rounded(((132, 133),), 12, 11), ((1, 1),))

    def test_alike_ones_stay(self):
        self.assertEqual(rounded(((1, 5), (1, 4), (1, 3)), 1, 1), ((1, 1),) * 3)

    def test_against_the_words(self):
        for thresholds in LISTS:
            for width in range(13):
                for other in range(13):
                    due = tuple(map(oracle.pair, oracle.rounded(thresholds, width, other)))
                    self.assertEqual(rounded(thresholds, width, other), due)

    def test_wrong_things(self):
        self.refuses_all("NoList", oracle.right_list, rounded, (), STEPS, (1, 2))
        self.refuses_all("NoWidth", oracle.right_width, rounded, (STEPS,), 3, (2,))
        self.refuses_all("NoWidth", oracle.right_width, rounded, (STEPS, 2), 3, ())
        self.refuses("NoList", {}, rounded, None, None, None)
        self.refuses("NoWidth", {}, rounded, STEPS, 13, 1)
        self.refuses("NoWidth", {}, rounded, STEPS, 1, -1)
        self.refuses("NoWidth", {}, rounded, STEPS, True, 1)


if __name__ == "__main__":
    unittest.main()
