"""Case trees [6.4]."""

import unittest

import patterns_oracle
from making import many_times, some_web
from odd import OddCase, STEPS, TWO, answer, spoiled
from twotides.cases import case_tree, is_case_tree
from twotides.patterns import patterns
from twotides.shapes import row_web, star_web
from twotides.webs import Web

ONE, TWOS = ((1, 1),), ((2, 1),)
FEW = (ONE, TWOS, ((3, 2),), ((3, 1),), ((2, 1), (4, 1)), ((5, 3), (9, 4)), ((2, 3),), ((4, 3), (4, 3)))
CALM = Web((1, 1, 1), ((0, 1, TWOS), (0, 2, TWOS)))
BARRED = ((0, 1), (0, -1))


class CaseTreeTest(OddCase):
    def test_without_pipes(self):
        for web in (Web((1,), ()), Web((0, 5, 0, 5), ())):
            self.assertEqual(case_tree(web), ())
            self.assertIs(is_case_tree(web, ()), True)
            self.assertIs(is_case_tree(web, []), False)
            self.assertIs(is_case_tree(web, ((),)), False)

    def test_ordinary(self):
        web = Web((1, 1), ((0, 1, TWOS),))
        self.assertTrue(patterns_oracle.is_case_tree(web, case_tree(web)))
        self.assertIs(is_case_tree(web, (0, (BARRED, (), BARRED))), True)
        self.assertIs(is_case_tree(web, (0, (BARRED[::-1], (), BARRED * 3))), True)
        self.assertIsNone(case_tree(TWO))
        self.assertIsNone(case_tree(Web((1, 0), ((0, 1, ((1, 1), (1, 1))),))))
        self.assertTrue(patterns_oracle.is_case_tree(CALM, case_tree(CALM)))

    def test_two_seas(self):
        web = Web((0, 3, 0), ((0, 2, ONE), (0, 1, ((1, 3),)), (1, 2, ((2, 3),))))
        tree = case_tree(web)
        self.assertTrue(patterns_oracle.is_case_tree(web, tree))
        self.assertIs(is_case_tree(web, tree), True)
        seas = Web((0, 0, 1), ((0, 1, ONE),))
        self.assertIs(is_case_tree(seas, (0, (((0, 1),), (), ((0, -1),)))), False)
        self.assertIs(is_case_tree(seas, (0, (((0, -1),), (), ((0, -1),)))), True)

    def test_wrong_trees(self):
        web = Web((1, 1), ((0, 1, TWOS),))
        for wrong in ((), BARRED, (0, (BARRED, BARRED)), (0, (BARRED, ())), (0, (BARRED, (), BARRED, ())),
                      (0, (BARRED, (), BARRED, BARRED)), (0, (BARRED, BARRED, ())),
                      (0, (BARRED, BARRED, BARRED)), (0, ((), (), ())), (1, (BARRED, (), BARRED)),
                      (-1, (BARRED, (), BARRED)), (False, (BARRED, (), BARRED)), (0, [BARRED, (), BARRED]),
                      [0, (BARRED, (), BARRED)], (0, (list(BARRED), (), BARRED)), (0, (BARRED, [], BARRED)),
                      (0, (((0, 1),), (), BARRED)), (0, (BARRED, (), ((0, -1), (0, 1), (0, 1)))), (0,), None, web,
                      (0, (BARRED, (0, ((), (), ())), BARRED)), (0, (BARRED, (), BARRED), 0)):
            self.assertIs(is_case_tree(web, wrong), False, wrong)

    def test_a_ring_over_a_pipe_that_is_not_set(self):
        two = Web((1, 1, 1), ((0, 1, TWOS), (1, 2, ((9, 1),))))
        other = ((1, 1), (1, -1))
        self.assertIs(is_case_tree(two, (1, (other, (0, (BARRED, (), BARRED)), other))), True)
        self.assertIs(is_case_tree(two, (0, (other, (1, (other, (), other)), other))), False)
        self.assertIs(is_case_tree(two, other), False)
        for mixed in ((*other, (0, -1), (0, 1)), ((0, -1), (0, 1), *other), (*other, *other)):
            due = mixed == (*other, *other)
            self.assertIs(is_case_tree(two, (1, (mixed, (0, (BARRED, (), BARRED)), mixed))), due)
        self.assertIs(is_case_tree(two, (1, (BARRED, (0, (BARRED, (), BARRED)), other))), False)
        self.assertIs(is_case_tree(two, (1, (other, (1, (other, (), other)), other))), False)

    def test_loose_bounds_are_loose(self):
        # A step of 2 alone lets nothing run at 2, but one of 4 does: the two pipes beside may make it so.
        web = Web((1, 1, 1, 1), ((0, 1, TWOS), (1, 2, TWOS), (2, 3, ((9, 1),))))
        second, third = ((1, 1), (1, -1)), ((2, 1), (2, -1))
        last = (2, (third, (), third))
        self.assertIs(is_case_tree(web, (1, (second, (0, (BARRED, last, BARRED)), second))), False)
        inner = (0, (BARRED, (), BARRED))
        self.assertIs(is_case_tree(web, (2, (third, (1, (second, inner, second)), third))), True)
        self.assertIs(is_case_tree(web, (0, (BARRED, (1, (second, last, second)), BARRED))), True)
        deep = (1, ((0, (second, second, (2, (third, second, third)))), (0, (BARRED, last, BARRED)), second))
        self.assertIs(is_case_tree(web, deep), patterns_oracle.is_case_tree(web, deep))
        tree = case_tree(web)
        self.assertIs(patterns_oracle.is_case_tree(web, tree), True)

    def test_there_is_one_just_if_no_pattern_runs(self):
        seen = {}
        for rng in many_times(250):
            width = rng.choice((1, 1, 2, 3))
            web = some_web(rng, 4, (0, width, width, width), FEW, 4)
            if not any(web.widths) or patterns_oracle.widths_too_many(web):
                continue
            tree = case_tree(web)
            self.assertIs(tree is None, patterns_oracle.patterns(web) != [])
            if tree is not None:
                self.assertTrue(patterns_oracle.is_case_tree(web, tree))
                self.assertIs(is_case_tree(web, tree), True)
            seen[tree is None] = seen.get(tree is None, 0) + 1
        self.assertGreater(min(seen.values()), 30)

    def test_spoiled_trees(self):
        ring = Web((2, 2, 0), ((0, 1, ((3, 2),)), (0, 2, ((2, 3),)), (1, 2, ((5, 4),))))
        for web in (CALM, ring, Web((1, 1), ((0, 1, ((3, 1), (4, 1))),))):
            tree = case_tree(web)
            self.assertIsNotNone(tree)
            for number, other in enumerate(spoiled(tree)):
                if number % 5 == 0 or number < 200:
                    self.assertIs(is_case_tree(web, other), patterns_oracle.is_case_tree(web, other), other)

    def test_trees_against_the_words(self):
        right = wrong = 0
        for rng in many_times(120):
            width = rng.choice((1, 2, 3))
            web = some_web(rng, 3, (0, width, width), FEW, 3)
            if not any(web.widths):
                continue
            for _ in range(4):
                tree = self.some_tree(rng, web, list(range(len(web.pipes))), {})
                due = patterns_oracle.is_case_tree(web, tree)
                self.assertIs(is_case_tree(web, tree), due, (web.widths, web.pipes, tree))
                right, wrong = right + due, wrong + (not due)
        self.assertGreater(min(right, wrong), 20)

    def some_tree(self, rng, web, left, flows):
        """Some tree in which most rings bar."""
        told = patterns_oracle.loose_bounds(web, flows)
        rings = [((pipe, 1), (pipe, -1)) for pipe in flows if told[pipe] == (1, 0)]
        if rings and rng.random() < 0.8:
            return rng.choice(rings)
        if not left:
            return ((next(iter(flows)), 1), (next(iter(flows)), -1)) if any(flows.values()) else ()
        pipe = rng.choice(left)
        many = len(web.pipes[pipe][2])
        rest = [other for other in left if other != pipe]
        return pipe, tuple(self.some_tree(rng, web, rest, {**flows, pipe: ran}) for ran in range(-many, many + 1))

    def test_unlike_widths(self):
        for web in (Web((1, 2), ((0, 1, ONE),)), Web((0,), ()), Web((0, 0), ((0, 1, ONE),)), Web((3, 0, 2), ()),
                    Web((11, 12), ((0, 1, STEPS),) * 9)):
            self.refuses("UnlikeWidths", {}, case_tree, web)
            for thing in ((), None, (0, ((), ()))):
                self.refuses("UnlikeWidths", {}, is_case_tree, web, thing)

    def test_limits(self):
        self.assertEqual(answer(case_tree, Web((8, 0, 8), ((0, 1, ONE), (0, 2, ((9, 1),)))))[0], "returned")
        self.refuses("TooMany", {"most": 64}, case_tree, Web((9, 8 + 1), ((0, 1, ONE),) * 9))
        self.refuses("TooMany", {"most": 64}, case_tree, Web((2,) * 7, ()))
        self.refuses("TooMany", {"most": 5000}, case_tree, Web((1, 1), ((0, 1, TWOS),) * 8))
        self.assertIsNone(case_tree(Web((1, 1), ((0, 1, TWOS),) * 7)))
        wide = Web((9, 9), ((0, 1, ((5, 1),)),))
        self.assertIs(is_case_tree(wide, (0, (BARRED, (), BARRED))), True)

    def test_many_pipes_in_a_told_tree(self):
        web = Web((1, 0) * 6, tuple((k, k + 1, ((2, 1),)) for k in range(11)))
        tree = ()
        for pipe in reversed(range(11)):
            tree = (pipe, (((pipe, 1), (pipe, -1)), tree, ((pipe, 1), (pipe, -1))))
        self.assertEqual(is_case_tree(web, tree), patterns_oracle.is_case_tree(web, tree))

    def test_it_ends_in_good_time(self):
        webs = [row_web(1, TWOS, 8), star_web(1, 1, TWOS, 7), row_web(2, ((5, 4),), 6), row_web(1, STEPS, 5),
                star_web(1, 1, ((3, 1), (4, 1)), 5), Web((1,) * 5, tuple((k, k + 1, ((2, 1),) * 3) for k in range(4)))]
        for web in webs:
            tree = case_tree(web)
            self.assertIs(tree is None, patterns(web) != [])
            if tree is not None:
                self.assertIs(is_case_tree(web, tree), True)


if __name__ == "__main__":
    unittest.main()
