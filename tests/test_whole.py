"""The program as a whole: the examples, and what its modules tell of one web or book together."""

import unittest
from math import prod

import oracle
from making import many_times, some_book, some_filling, some_opening, some_web
from odd import STEPS, TIGHT, TWO
from twotides.books import Book
from twotides.calm import breach, calm, costs, loss, most_measures, room
from twotides.counts import ahead, rests, runners
from twotides.desks import Desk
from twotides.errors import TidesError
from twotides.fillings import flows, tick
from twotides.foes import ends, endless_play, longest_play, longest_single, still_play
from twotides.ledgers import falls, square, tide
from twotides.lists import flow, rounded
from twotides.mending import raised, widest
from twotides.patterns import calm_web, patterns
from twotides.plays import Play
from twotides.reading import read_book, read_filling, read_log, read_web
from twotides.rings import ring_sway, ring_web, rings_that_run
from twotides.rows import row_count, shortest_row
from twotides.seen import fitted, flows_seen, sights
from twotides.shapes import narrowest, row_web
from twotides.strangers import led, read_off, stranger_end
from twotides.sways import after, basins, is_sway, sway
from twotides.texts import book_text, filling_text, log_text, web_text
from twotides.timetables import rounds
from twotides.webs import Web, is_ringless, renaming

ONE = ((1, 1),)


class ExamplesTest(unittest.TestCase):
    def test_examples(self):
        self.assertEqual((flow(STEPS, (-9, 2)), rounded(((1, 3), (1, 1)), 2, 1)), (-2, ((1, 2), (1, 1))))
        self.assertEqual((flows(TWO, (5, 0), None), tick(TWO, (5, 0), None), tick(TWO, (5, 0), ())),
                         ((1,), (4, 1), (5, 0)))
        self.assertEqual((tide(TWO, (5, 0)), falls(TWO, (5, 0)), tide(TWO, (4, 1))), ((41, 2), ((6, 1),), (29, 2)))
        self.assertEqual((sway(TWO, (5, 0)), after(TWO, (5, 0), 10 ** 30)), ((2, (3, 2), (2, 3)), (3, 2)))
        self.assertEqual((room(TIGHT, 0, 0), breach(TIGHT), widest(TIGHT, 0, 0, 3)),
                         ((4, 1), (0, (0, 0), (2, 1)), ((3, 1), (5, 1), (7, 1))))
        self.assertIs(calm(Book(((1, 2),), ((((3, 1), (5, 1), (7, 1)), ((0, 0),)),))), True)
        self.assertEqual(breach(Book(((2, 3), (1, 1)), ((ONE, ((0, 1),)),))), (0, (0, 1), (1, 1)))
        star = Web((1, 1, 1), ((0, 1, ((2, 1),)), (0, 2, ((2, 1),))))
        self.assertEqual((patterns(TWO), calm_web(star)), ([(-1,), (1,)], True))
        self.assertEqual((shortest_row(1, STEPS), row_count(1, ONE, 2, 1000)), (5, 3))
        self.assertEqual((rests(TWO, 4), ahead(TWO, (2, 3))), ([(2, 2)], [(1, 4), (3, 2)]))
        self.assertEqual(fitted([((2, 1), 1), ((4, 1), 2), ((1, 1), 0)], 3),
                         (((1, 1), (2, 1)), ((2, 1), (4, 1)), ((4, 1), None)))
        self.assertEqual(web_text(TWO), "widths 1 1\npipe 0 1 1\n")


class OneFillingTest(unittest.TestCase):
    def test_four_ways_to_lead(self):
        for rng in many_times(150):
            web, openings = some_web(rng, 6), []
            filling = some_filling(rng, web, 30)
            for _ in range(rng.randint(0, 12)):
                opening = some_opening(rng, web)
                # A desk's line cannot tell that all pipes are shut.
                openings.append(None if opening == () else opening)
            play, desk, now = Play(web, filling), Desk(), filling
            desk.tell("web a " + web_text(web).replace("\n", "|"))
            desk.tell("fill a " + filling_text(filling).replace("\n", "|"))
            for opening in openings:
                ran = play.tick(opening)
                line = "tick a" if opening is None else "tick a " + ",".join(map(str, opening))
                self.assertEqual(desk.tell(line), " ".join(map(str, ran)) or "none")
                now = tick(web, now, opening)
            again = read_web(web_text(web))
            replayed = Play(again, read_filling(again, filling_text(filling)))
            for opening in read_log(again, log_text(play.log())):
                replayed.tick(opening)
            self.assertEqual((play.now(), replayed.now()), (now, now))
            self.assertEqual((desk.tell("now a"), desk.tell("ran a")), (" ".join(map(str, now)), str(replayed.ran())))
            self.assertEqual(log_text(replayed.log()), log_text(openings))

    def test_sways_and_strangers_and_rounds(self):
        for rng in many_times(100):
            web = some_web(rng, 5)
            filling = some_filling(rng, web, 15)
            first, one, other = sway(web, filling)
            self.assertEqual(after(web, filling, first), one)
            lead, length, measures = rounds(web, filling, [None])
            self.assertEqual((lead, length), (first, 1 if one == other else 2))
            self.assertEqual(stranger_end(web, filling, lambda now: None), (lead, length, measures))
            self.assertEqual([filling, *led(web, filling, lambda now: None, first + 1)][-2:], [one, other])
            self.assertTrue(is_sway(web, (one, other)))

    def test_what_was_seen_of_a_play(self):
        for rng in many_times(100):
            web = some_web(rng, 6, (1, 2, 3), most_pipes=4)
            filling = some_filling(rng, web, 30)
            if is_ringless(web):
                self.assertEqual(flows_seen(web, filling, tick(web, filling, None)), flows(web, filling, None))
            for number, (*_, thresholds) in enumerate(web.pipes):
                told = fitted(sights(web, filling, 20)[number::len(web.pipes)], len(thresholds))
                self.assertIsNotNone(told)
                for (above, most), threshold in zip(told, thresholds):
                    self.assertLess(oracle.value(above), oracle.value(threshold))
                    self.assertTrue(most is None or oracle.value(threshold) <= oracle.value(most))


class OneWebTest(unittest.TestCase):
    def test_patterns_and_sways_and_foes(self):
        calm_ones = 0
        for rng in many_times(120):
            web = some_web(rng, 4, (0, 1, 1, 2), (ONE, ((2, 1),), ((1, 1), (2, 1)), ((3, 2),)), 4)
            still = calm_web(web)
            calm_ones += still
            self.assertEqual(still, patterns(web) == [])
            found = basins(web, 2)
            if still:
                self.assertTrue(all(one == other for one, other in found))
            for one, other in found:
                self.assertEqual(one == other, not any(flows(web, one, None)))
                self.assertIn(other, ahead(web, one))
                if one != other:
                    self.assertIn(flows(web, one, None), patterns(web))
        self.assertGreater(calm_ones, 10)

    def test_books_that_are_calm_let_no_foe_play_on(self):
        tried = 0
        for rng in many_times(400):
            book = raised(some_book(rng, (0, 1, 2), (ONE, ((2, 1),), ((1, 1), (3, 1)))))
            web = some_web(rng, 3, (0, 1, 2), [kind[0] for kind in book.kinds] or [ONE], 3)
            if any(web.widths[one] == web.widths[other] == 0 for one, other, _ in web.pipes):
                continue
            narrow, sorts = narrowest(web)
            if not calm(narrow):
                continue
            filling = some_filling(rng, web, 5)
            try:
                number = longest_play(web, filling)
            except TidesError:
                continue
            self.assertIsNone(endless_play(web, filling))
            self.assertLessEqual(number, most_measures(narrow, web, sorts, filling))
            self.assertLessEqual(longest_single(web, filling), number)
            play = still_play(web, filling)
            self.assertLessEqual(len(play), number)
            for opening in play:
                fall = sum(map(oracle.value, costs(narrow, web, sorts, filling, opening)))
                later = tick(web, filling, opening)
                self.assertGreaterEqual(oracle.value(square(web, filling)) - oracle.value(square(web, later)), fall)
                filling = later
            self.assertTrue(ends(web, filling) and (loss(narrow) is None) == (narrow.kinds == ()))
            tried += number > 0
        self.assertGreater(tried, 20)

    def test_counts_and_rows_and_rings(self):
        for thresholds in (ONE, ((2, 1),), ((1, 1), (2, 1)), ((2, 1), (3, 1))):
            for many in (2, 3, 4):
                web = row_web(1, thresholds, many)
                # One filling of each sway has 0 in the first vessel, when all water rises and falls together.
                found = {tuple(water - filling[0] for water in filling) for total in range(many)
                         for filling in (*rests(web, total), *runners(web, total))}
                self.assertEqual(len(found), row_count(1, thresholds, many, 10 ** 9))
                runs = any(runners(web, total) for total in range(many))
                self.assertEqual(runs, shortest_row(1, thresholds) is not None and shortest_row(1, thresholds) <= many)
                if many > 2:
                    ring = ring_web(1, thresholds, many)
                    runs = any(runners(ring, total) for total in range(many))
                    self.assertEqual(runs, many in rings_that_run(1, thresholds))
                    if runs:
                        one, other = ring_sway(1, thresholds, many)
                        self.assertIn(one, runners(ring, sum(one)))
                        self.assertIn(other, runners(ring, sum(one)))

    def test_texts_keep_all(self):
        for rng in many_times(100):
            web, book = some_web(rng, 7), some_book(rng)
            again = read_web(web_text(web))
            self.assertEqual(again, web)
            self.assertEqual(read_book(book_text(book)), book)
            self.assertEqual(renaming(again, web), renaming(web, web))
            self.assertEqual(breach(read_book(book_text(book))), breach(book))
            self.assertEqual(web_text(again), web_text(web))
            desk = Desk()
            desk.tell("book a " + book_text(book).replace("\n", "|"))
            self.assertEqual(desk.tell("calm a") == "calm", calm(book))
            desk.tell("web a " + web_text(web).replace("\n", "|"))
            if prod(width or 1 for width in web.widths) <= 64 and prod(2 * len(p[2]) + 1 for p in web.pipes) <= 5000:
                self.assertEqual(desk.tell("stills a") == "yes", calm_web(web))

    def test_a_pipe_is_a_valve(self):
        for thresholds in (ONE, STEPS, ((1, 3), (1, 3), (1, 2))):
            for width, other in ((1, 1), (2, 3), (0, 6)):
                web = Web((width, other), ((0, 1, thresholds),))

                def valve(one, two):
                    waters = (one[0] * width // one[1], two[0] * other // two[1])
                    return flows(web, waters, None)[0]

                found = read_off(valve, width, other, 40)
                self.assertEqual(found, rounded(thresholds, width, other))


if __name__ == "__main__":
    unittest.main()
