"""Timetables [3.3]."""

import unittest

import oracle
from making import LISTS, many_times, some_filling, some_opening, some_web
from odd import OddCase, STEPS, TWO, answer, spoiled
from twotides.shapes import row_web
from twotides.timetables import rounds
from twotides.webs import Web

ONE = ((1, 1),)
ROW = row_web(1, ONE, 3)


def due(web, filling, timetable):
    """Lead, length and measures, in the words of the document."""
    met, measures = [filling], []
    while True:
        many = 0
        for opening in timetable:
            many += sum(map(abs, oracle.flows(web, filling, opening)))
            filling = oracle.tick(web, filling, opening)
        measures.append(many)
        if filling in met:
            lead = met.index(filling)
            return lead, len(met) - lead, sum(measures[lead:])
        met.append(filling)


class RoundsTest(OddCase):
    def test_one_opening(self):
        self.assertEqual(rounds(TWO, (5, 0), (None,)), (2, 2, 2))
        self.assertEqual(rounds(TWO, (4, 0), (None,)), (2, 1, 0))
        self.assertEqual(rounds(TWO, (4, 0), ((),)), (0, 1, 0))
        self.assertEqual(rounds(TWO, (4, 0), ((0,),)), (2, 1, 0))
        self.assertEqual(rounds(Web((3,), ()), (4,), (None, ())), (0, 1, 0))

    def test_a_round_that_sways_within(self):
        self.assertEqual(rounds(TWO, (1, 0), (None, None)), (0, 1, 2))
        self.assertEqual(rounds(TWO, (1, 0), (None, (), (0,))), (0, 1, 2))
        self.assertEqual(rounds(TWO, (1, 0), (None, None, None)), (0, 2, 6))
        self.assertEqual(rounds(ROW, (1, 0, 0), ((0,), (1,))), (0, 3, 4))

    def test_list_or_tuple(self):
        for timetable in ([None], [(0,), ()], [None, (0,), None]):
            self.assertEqual(rounds(TWO, (9, 0), timetable), rounds(TWO, (9, 0), tuple(timetable)))

    def test_how_many_openings(self):
        self.assertEqual(rounds(TWO, (40, 0), (None,) * 12), (2, 1, 0))
        self.assertEqual(rounds(TWO, (40, 0), [None] * 12), (2, 1, 0))
        for wrong in ((), [], (None,) * 13, [None] * 13, [()] * 13):
            self.refuses("NoOpening", {}, rounds, TWO, (40, 0), wrong)

    def test_long_lengths(self):
        found = 0
        for rng in many_times(300):
            web = some_web(rng, 5, (0, 1, 1, 2), LISTS[:5])
            filling = some_filling(rng, web, 9)
            timetable = [some_opening(rng, web) for _ in range(rng.randint(1, 4))]
            told = due(web, filling, timetable)
            self.assertEqual(rounds(web, filling, timetable), told)
            found = max(found, told[1])
        self.assertGreater(found, 2)

    def test_too_many(self):
        self.assertEqual(rounds(TWO, (39998, 0), (None,)), (19999, 1, 0))
        self.assertEqual(rounds(TWO, (39997, 0), (None,)), (19998, 2, 2))
        self.assertEqual(rounds(TWO, (39998, 0), (None, ())), (19999, 1, 0))
        self.assertEqual(rounds(TWO, (40000, 0), (None, None)), (10000, 1, 0))
        self.refuses("TooMany", {"most": 20000}, rounds, TWO, (40000, 0), (None,))
        self.refuses("TooMany", {"most": 20000}, rounds, TWO, (39999, 0), (None,))
        self.refuses("TooMany", {"most": 20000}, rounds, TWO, (10 ** 39, 0), [None] * 12)

    def test_the_timetable_stays_as_it_was(self):
        timetable = [None, (0,)]
        rounds(TWO, (5, 0), timetable)
        self.assertEqual(timetable, [None, (0,)])

    def test_wrong_fillings(self):
        def right(thing):
            return oracle.right_filling(ROW, thing) and max(map(abs, thing)) < 1000

        for other in spoiled((3, 0, -1)):
            if not oracle.right_filling(ROW, other):
                self.assertEqual(answer(rounds, ROW, other, (None,)), ("NoFilling", {}), other)
            elif right(other):
                self.assertEqual(answer(rounds, ROW, other, (None,)), ("returned", due(ROW, other, (None,))))
        self.refuses("NoFilling", {}, rounds, ROW, (0, 0), ())

    def test_wrong_timetables(self):
        def right(thing):
            if type(thing) not in (list, tuple) or not 1 <= len(thing) <= 12:
                return False
            return all(oracle.right_opening(ROW, opening) for opening in thing)

        taken = self.refuses_all("NoOpening", right, rounds, (ROW, (3, 0, -1)), (None, (0, 1), (1,)), ())
        self.assertGreater(taken, 10)
        for wrong in (None, 0, "", ((2,),), ((1, 0),), ([0],), (None, (True,)), {0: None}, (0,), ((0, 0),), range(1)):
            self.refuses("NoOpening", {}, rounds, ROW, (3, 0, -1), wrong)


if __name__ == "__main__":
    unittest.main()
