"""Rows of any length [7.3]."""

import unittest
from itertools import product

import oracle
from making import many_times
from odd import OddCase, STEPS
from patterns_oracle import ways
from twotides.patterns import runs, stills
from twotides.rows import row_count, shortest_row
from twotides.shapes import row_web

ONE, TWOS = ((1, 1),), ((2, 1),)
LISTS = (ONE, TWOS, STEPS, ((1, 2),), ((2, 1), (3, 1)), ((1, 3), (1, 1)), ((1, 2), (1, 2), (1, 1)), ((3, 4),))


def counted(width, thresholds, many):
    """The number of fillings for each number of vessels up to many: flows are lined up one behind another."""
    flows = range(-len(thresholds), len(thresholds) + 1)
    known = {key: ways(thresholds, width, *key) for key in product(flows, repeat=3)}
    lines, found = {(0, ran): 1 for ran in flows}, []
    for _ in range(many):
        found.append(sum(number for (_, ran), number in lines.items() if ran == 0))
        later = {}
        for (ahead, ran), number in lines.items():
            for behind in flows:
                later[ran, behind] = later.get((ran, behind), 0) + number * known[ahead, ran, behind]
        lines = later
    return found


class RowCountTest(OddCase):
    def test_example(self):
        self.assertEqual((shortest_row(1, STEPS), row_count(1, ONE, 2, 1000)), (5, 3))

    def test_one_vessel(self):
        for width in (1, 7, 12):
            self.assertEqual(row_count(width, STEPS, 1, 1000), 1)
            self.assertEqual(row_count(width, STEPS, 1, 1), 0)

    def test_by_trying_all_fillings(self):
        for width, thresholds, many in ((1, ONE, 3), (1, TWOS, 3), (2, ((1, 2),), 3), (1, ((2, 1), (3, 1)), 3),
                                        (3, ((1, 3), (1, 1)), 2), (2, ((3, 4),), 3), (1, ONE, 4), (1, STEPS, 3),
                                        (1, ((1, 1), (1, 1), (2, 1)), 3)):
            web, found = row_web(width, thresholds, many), 0
            far = int(oracle.value(thresholds[-1]) * width) + 2 * len(thresholds) + 1
            for drops in product(range(-far, far + 1), repeat=many - 1):
                filling = (0, *(sum(drops[:k + 1]) for k in range(many - 1)))
                found += oracle.tick(web, oracle.tick(web, filling, None), None) == filling
            self.assertEqual(row_count(width, thresholds, many, 10 ** 9), found, (width, thresholds, many))

    def test_against_the_words(self):
        for width in (1, 2, 3, 12):
            for thresholds in LISTS:
                due = counted(width, thresholds, 12)
                for many, number in enumerate(due, 1):
                    for modulus in (1, 2, 997, 10 ** 9):
                        self.assertEqual(row_count(width, thresholds, many, modulus), number % modulus)

    def test_long_rows(self):
        for thresholds in (ONE, STEPS, ((1, 2), (1, 2), (1, 1))):
            due = counted(1, thresholds, 300)
            for many in (100, 255, 256, 257, 300):
                self.assertEqual(row_count(1, thresholds, many, 999999937), due[many - 1] % 999999937)

    def test_as_many_vessels_as_may_be(self):
        # Modulo a small number the counts come again and again, from some row on.
        for thresholds, modulus in ((ONE, 3), (ONE, 2), (((2, 1), (3, 1)), 2), (TWOS, 10), (STEPS, 2)):
            numbers = [number % modulus for number in counted(1, thresholds, 1500)]
            length = next(k for k in range(1, 700) if numbers[700:-k] == numbers[700 + k:])
            for many in (10 ** 30, 10 ** 30 - 1, 10 ** 29 + 7):
                due = numbers[700 + (many - 701) % length]
                self.assertEqual(row_count(1, thresholds, many, modulus), due)
        self.assertIs(type(row_count(12, ((1, 144), (1, 100), (1, 2)), 10 ** 30, 10 ** 9)), int)

    def test_limits(self):
        self.assertEqual(row_count(1, TWOS, 10 ** 30, 1), 0)
        self.assertEqual(row_count(1, TWOS, 3, 10 ** 9), 9)
        for wrong in (0, -1, 10 ** 30 + 1, 10 ** 39, True, None, "1", (1,)):
            self.refuses("NoNumber", {}, row_count, 1, ONE, wrong, 10)
        for wrong in (0, -1, 10 ** 9 + 1, True, None, "1", (1,)):
            self.refuses("NoNumber", {}, row_count, 1, ONE, 10, wrong)

    def test_wrong_things(self):
        def width(thing):
            return oracle.whole(thing, 1, 12)

        def number(most):
            return lambda thing: oracle.whole(thing, 1, most)

        self.refuses_all("NoWidth", width, row_count, (), 3, (ONE, 2, 10))
        self.refuses_all("NoList", oracle.right_list, row_count, (3,), STEPS, (2, 10))
        self.refuses_all("NoNumber", number(10 ** 30), row_count, (3, ONE), 2, (10,))
        self.refuses_all("NoNumber", number(10 ** 9), row_count, (3, ONE, 2), 10, ())
        self.refuses_all("NoWidth", width, shortest_row, (), 3, (ONE,))
        self.refuses_all("NoList", oracle.right_list, shortest_row, (3,), STEPS, ())
        for call, more in ((row_count, (2, 10)), (shortest_row, ())):
            for wrong in (0, 13, -1, True, None):
                self.refuses("NoWidth", {}, call, wrong, None, *more)
            self.refuses("NoList", {}, call, 1, (), *more)
        self.refuses("NoList", {}, row_count, 1, (), 0, 0)


class ShortestRowTest(OddCase):
    def test_named_lists(self):
        self.assertEqual(shortest_row(1, ONE), 2)
        self.assertEqual(shortest_row(1, ((2, 1), (3, 1))), 3)
        self.assertEqual(shortest_row(4, ((1, 2), (1, 1), (5, 4))), 5)
        self.assertEqual(shortest_row(1, ((2, 1), (4, 1), (6, 1), (8, 1), (9, 1))), 7)
        self.assertEqual(shortest_row(1, ((2, 1), (5, 1), (7, 1), (8, 1), (9, 1), (11, 1))), 8)

    def test_none(self):
        for width, thresholds in ((1, TWOS), (1, ((4, 1),) * 2), (12, ((1, 6),)), (1, ((10 ** 6, 1),) * 6),
                                  (3, ((2, 3), (5, 3), (7, 3)))):
            self.assertIsNone(shortest_row(width, thresholds))
            self.assertTrue(stills(row_web(width, thresholds[:2], 5)))

    def test_against_the_words(self):
        seen = {}
        for rng in many_times(80):
            width, many = rng.choice((1, 1, 2, 3)), rng.randint(1, 3)
            tops = sorted(rng.randint(1, 6) for _ in range(many))
            thresholds = tuple(oracle.pair(oracle.Fraction(top, width)) for top in tops)
            due = next((k for k in range(2, 6) if not self.is_still(width, thresholds, k)), None)
            found = shortest_row(width, thresholds)
            self.assertEqual(found, due, (width, thresholds))
            seen[found] = True
        self.assertEqual(set(seen) - {5}, {2, 3, None})

    def is_still(self, width, thresholds, many):
        """Whether no flows of a row with so many vessels run; a flow and those beside it must have a way."""
        flows = range(-len(thresholds), len(thresholds) + 1)
        web = row_web(width, thresholds, many)
        for pattern in product(flows, repeat=many - 1):
            line = (0, *pattern, 0)
            if any(pattern) and all(ways(thresholds, width, *line[k:k + 3]) for k in range(many - 1)):
                return not runs(web, pattern)
        return True


if __name__ == "__main__":
    unittest.main()
