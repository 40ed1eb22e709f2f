"""Plays [2.3]."""

import unittest

import oracle
from making import many_times, some_filling, some_opening, some_web
from odd import OddCase, STEPS, TWO, answer, spoiled
from twotides.plays import Play
from twotides.webs import Web

ONE = ((1, 1),)
SEA = Web((2, 0, 1), ((0, 1, STEPS), (0, 2, ONE), (1, 2, ONE)))


def state(play):
    return play.now(), play.log(), play.ran()


class PlayTest(OddCase):
    def test_ticks(self):
        play = Play(TWO, (5, 0))
        self.assertEqual(state(play), ((5, 0), [], 0))
        self.assertEqual(play.tick(None), (1,))
        self.assertEqual(play.tick(()), (0,))
        self.assertEqual(play.tick((0,)), (1,))
        self.assertEqual(state(play), ((3, 2), [None, (), (0,)], 2))

    def test_amounts_of_flows_are_summed(self):
        play = Play(SEA, (8, 0, -3))
        self.assertEqual(play.tick(None), (2, 1, 1))
        self.assertEqual(play.ran(), 4)
        self.assertEqual(play.now(), (5, 0, -1))
        self.assertEqual(Play(TWO, (0, 5)).tick(None), (-1,))
        play = Play(TWO, (0, 5))
        play.tick(None)
        self.assertEqual(play.ran(), 1)

    def test_back(self):
        play = Play(TWO, (5, 0))
        states = [state(play)]
        for _ in range(5):
            play.tick(None)
            states.append(state(play))
        self.assertIsNone(play.back(1))
        self.assertEqual(state(play), states[4])
        self.refuses("NoNumber", {}, play.back, 5)
        self.assertEqual(state(play), states[4])
        play.back(2)
        self.assertEqual(state(play), states[2])
        play.tick(None)
        self.assertEqual(state(play), states[3])
        play.back(3)
        self.assertEqual(state(play), states[0])
        self.refuses("NoNumber", {}, play.back, 1)
        self.refuses("NoNumber", {}, play.back, 0)

    def test_log_is_new(self):
        play = Play(TWO, (5, 0))
        play.tick(None)
        play.log().append(())
        self.assertEqual(play.log(), [None])
        self.assertIsNot(play.log(), play.log())

    def test_copy(self):
        play = Play(SEA, (8, 0, -3))
        play.tick(None)
        play.tick((0,))
        before = state(play)
        other = play.copy()
        self.assertIsInstance(other, Play)
        self.assertEqual(state(other), before)
        other.tick(None)
        other.back(2)
        self.assertEqual((state(play), other.log()), (before, [None]))
        play.tick((1,))
        self.assertEqual(other.log(), [None])
        other.back(1)
        self.assertEqual(state(other), ((8, 0, -3), [], 0))
        self.refuses("NoNumber", {}, other.back, 1)
        self.assertEqual(play.log(), [None, (0,), (1,)])
        play.back(3)
        self.assertEqual(state(play), ((8, 0, -3), [], 0))

    def test_each_play_is_its_own(self):
        one, other = Play(TWO, (5, 0)), Play(TWO, (5, 0))
        one.tick(None)
        self.assertEqual(other.log(), [])

    def test_against_the_words(self):
        for rng in many_times(100):
            web = some_web(rng)
            filling = some_filling(rng, web)
            play, past = Play(web, filling), [(filling, None, 0)]
            for _ in range(20):
                if len(past) > 1 and rng.randrange(4) == 0:
                    many = rng.randint(1, len(past) - 1)
                    play.back(many)
                    del past[-many:]
                else:
                    opening = some_opening(rng, web)
                    ran = oracle.flows(web, past[-1][0], opening)
                    self.assertEqual(play.tick(opening), ran)
                    past.append((oracle.tick(web, past[-1][0], opening), opening, sum(map(abs, ran))))
                due = (past[-1][0], [opening for _, opening, _ in past[1:]], sum(many for _, _, many in past))
                self.assertEqual(state(play), due)


class TryingTest(OddCase):
    def setUp(self):
        self.play = Play(TWO, (9, 0))
        for _ in range(3):
            self.play.tick(None)
        self.before = state(self.play)

    def still(self):
        """The play is as it was, and each tick can be taken back as ever."""
        self.assertEqual(state(self.play), self.before)
        other = self.play.copy()
        other.back(3)
        self.assertEqual(state(other), ((9, 0), [], 0))
        self.refuses("NoNumber", {}, other.back, 1)

    def test_an_action_that_ticks(self):
        calls = []

        def action(play):
            calls.append(play)
            play.tick(())
            play.tick(None)
            return play.now(), play.log(), play.ran()

        self.assertEqual(self.play.trying(action), ((5, 4), [None, None, None, (), None], 4))
        self.assertEqual(len(calls), 1)
        self.assertIs(calls[0], self.play)
        self.still()

    def test_an_action_that_takes_back_elder_ticks(self):
        def action(play):
            play.back(2)
            play.tick(())
            return state(play)

        self.assertEqual(self.play.trying(action), ((8, 1), [None, ()], 1))
        self.still()
        self.assertEqual(self.play.trying(lambda play: play.back(3)), None)
        self.still()

    def test_an_action_that_tries_within(self):
        def inner(play):
            play.back(4)
            return play.now()

        def outer(play):
            play.tick(())
            here = state(play)
            found = play.trying(inner)
            self.assertEqual(state(play), here)
            play.tick(None)
            return found, play.now()

        self.assertEqual(self.play.trying(outer), ((9, 0), (5, 4)))
        self.still()

    def test_an_error_goes_on_unchanged(self):
        for error in (KeyError("x"), KeyboardInterrupt(), ValueError()):
            def action(play):
                play.back(1)
                play.tick((0,))
                play.tick(())
                raise error

            try:
                self.play.trying(action)
            except BaseException as caught:
                self.assertIs(caught, error)
            else:
                self.fail("no error went on")
            self.still()

    def test_an_error_of_the_play_goes_on(self):
        self.refuses("NoOpening", {}, self.play.trying, lambda play: (play.tick(None), play.tick((1,))))
        self.still()
        self.refuses("NoNumber", {}, self.play.trying, lambda play: (play.back(2), play.back(2)))
        self.still()

    def test_the_play_goes_on_behind(self):
        self.play.trying(lambda play: (play.back(3), play.tick(())))
        self.play.tick(None)
        self.assertEqual(state(self.play), ((5, 4), [None] * 4, 4))
        self.play.back(4)
        self.assertEqual(state(self.play), ((9, 0), [], 0))

    def test_a_copy_made_within_stays(self):
        other = self.play.trying(lambda play: (play.tick(()), play.copy())[1])
        self.still()
        self.assertEqual(other.log(), [None, None, None, ()])
        other.back(4)
        self.still()

    def test_what_is_returned_may_be_anything(self):
        thing = object()
        self.assertIs(self.play.trying(lambda play: thing), thing)
        self.assertIs(self.play.trying(lambda play: play), self.play)


class WrongTest(OddCase):
    def test_wrong_fillings(self):
        taken = self.refuses_all("NoFilling", lambda thing: oracle.right_filling(SEA, thing), Play, (SEA,), (8, 0, 1),
                                 ())
        self.assertGreater(taken, 5)

    def test_wrong_openings_change_nothing(self):
        play = Play(SEA, (8, 0, -3))
        play.tick((0,))
        for other in spoiled((0, 2)):
            before = state(play)
            word, told = answer(play.tick, other)
            if oracle.right_opening(SEA, other):
                self.assertEqual((word, told), ("returned", oracle.flows(SEA, before[0], other)))
                play.back(1)
            else:
                self.assertEqual((word, told), ("NoOpening", {}), other)
            self.assertEqual(state(play), before)

    def test_wrong_numbers_change_nothing(self):
        play = Play(TWO, (5, 0))
        for other in spoiled(2):
            while len(play.log()) < 3:
                play.tick(None)
            before = state(play)
            word, told = answer(play.back, other)
            if oracle.whole(other, 1, 3):
                self.assertEqual((word, told, len(play.log())), ("returned", None, 3 - other))
            else:
                self.assertEqual((word, told), ("NoNumber", {}), other)
                self.assertEqual(state(play), before)


if __name__ == "__main__":
    unittest.main()
