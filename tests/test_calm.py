"""Calm books [4]: rooms, breaches, webs that sway, losses, costs."""

import unittest
from fractions import Fraction

import books_oracle
import oracle
from making import LISTS, many_times, some_book, some_filling, some_opening, some_web
from odd import OddCase, STEPS, TIGHT, TWO, answer, spoiled
from twotides.books import Book, fault, sorts_of
from twotides.calm import breach, calm, calm_singly, costs, is_breach, loss, most_measures, room, sway_web
from twotides.shapes import narrowest
from twotides.sways import is_sway
from twotides.webs import Web

ONE = ((1, 1),)
SEA_BOOK = Book(((2, 3), (0, 1), (3, 2)), ((STEPS, ((0, 0), (0, 1), (1, 2))), (ONE, ((0, 2),))))
WIDE = Book(((3, 2), (0, 6), (2, 1)), ((((1, 1), (2, 1)), ((0, 0), (0, 2))), (((2, 1),), ((0, 1), (1, 2)))))
SMALL = (((1, 1),), ((2, 1), (4, 1), (5, 1)), ((1, 2), (1, 1)), ((5, 2),), ((7, 3), (7, 3)), ((13, 4), (9, 1)),
         ((2, 1), (3, 1), (4, 1), (5, 1), (6, 1), (7, 1)), ((1, 144),), ((8, 1), (17, 2)))


def books(times, widths=(0, 1, 1, 2, 3)):
    return [some_book(rng, widths, SMALL) for rng in many_times(times)]


def right_sort(book, thing):
    return oracle.whole(thing, 0, len(book.sorts) - 1)


class RoomTest(OddCase):
    def test_example(self):
        told = (room(TIGHT, 0, 0), breach(TIGHT))
        self.assertEqual(told, ((4, 1), (0, (0, 0), (2, 1))))

    def test_ordinary(self):
        self.assertEqual(room(SEA_BOOK, 0, 2), (13, 6))
        self.assertEqual(room(SEA_BOOK, 2, 0), (13, 6))
        self.assertEqual(room(SEA_BOOK, 0, 0), (3, 1))
        self.assertEqual(room(Book(((12, 1), (11, 1)), ()), 0, 1), (23, 132))

    def test_the_sea(self):
        self.assertEqual(room(SEA_BOOK, 0, 1), (3, 2))
        self.assertEqual(room(SEA_BOOK, 1, 2), (2, 3))
        self.refuses("NoSort", {}, room, SEA_BOOK, 1, 1)
        self.refuses("NoSort", {}, room, Book(((0, 6),), ()), 0, 0)

    def test_against_the_words(self):
        for book in books(100):
            for i, (width, _) in enumerate(book.sorts):
                for j in range(len(book.sorts)):
                    if i != j or width:
                        self.assertEqual(room(book, i, j), oracle.pair(books_oracle.room(book.sorts, (i, j))))

    def test_wrong_things(self):
        def right(thing):
            return right_sort(SEA_BOOK, thing)

        self.refuses_all("NoSort", right, room, (SEA_BOOK,), 0, (2,))
        self.refuses_all("NoSort", right, room, (SEA_BOOK, 0), 0, ())
        for wrong in (3, -1, True, None):
            self.refuses("NoSort", {}, room, SEA_BOOK, wrong, 0)
            self.refuses("NoSort", {}, room, SEA_BOOK, 0, wrong)


class BreachTest(OddCase):
    def test_examples(self):
        self.assertIs(calm(Book(((1, 2),), ((((3, 1), (5, 1), (7, 1)), ((0, 0),)),))), True)
        self.assertEqual(breach(Book(((2, 3), (1, 1)), ((((1, 1),), ((0, 1),)),))), (0, (0, 1), (1, 1)))

    def test_at_equality(self):
        # A room of 2: one measure makes a drop of 1 contrary, two one of 2.
        for threshold, drop in (((1, 1), (1, 1)), ((1, 2), (1, 1)), ((2, 1), None), ((3, 2), None)):
            book = Book(((1, 1),), (((threshold,), ((0, 0),)),))
            self.assertEqual(breach(book), drop and (0, (0, 0), drop))
            self.assertIs(calm(book), drop is None)
        self.assertEqual(breach(Book(((1, 1),), ((((2, 1), (2, 1)), ((0, 0),)),))), (0, (0, 0), (2, 1)))
        self.assertIsNone(breach(Book(((1, 1),), ((((2, 1), (3, 1)), ((0, 0),)),))))

    def test_the_least_kind_pair_and_drop(self):
        wide = (((9, 1),), ((0, 0), (0, 1), (1, 1)))
        tight = (((1, 1), (3, 1)), ((0, 1), (1, 1)))
        book = Book(((4, 1), (1, 2)), (wide, tight, tight))
        self.assertEqual(breach(book), (1, (0, 1), (1, 1)))
        self.assertEqual(breach(Book(((4, 1), (1, 1)), (wide, tight))), (1, (1, 1), (1, 1)))
        late = (((2, 1), (9, 4), (9, 4)), ((0, 0),))
        self.assertEqual(breach(Book(((2, 2),), (late,))), (0, (0, 0), (5, 2)))

    def test_six_thresholds_with_great_tops_and_bottoms(self):
        far = tuple((10 ** 6 - k, 1) for k in range(5, -1, -1))
        self.assertIsNone(breach(Book(((1, 6),), ((far, ((0, 0),)),))))
        near = ((1, 144), (1, 144), (5, 143), (3, 10), (10 ** 6, 7), (10 ** 6, 1))
        book = Book(((12, 1), (11, 6)), ((near, ((0, 0), (0, 1), (1, 1))),))
        self.assertEqual(breach(book), (0, (0, 0), (1, 12)))
        self.assertEqual(breach(Book(((12, 1), (11, 6)), ((near, ((0, 1), (1, 1))),))), (0, (0, 1), (1, 132)))
        self.assertIsNone(breach(Book(((12, 1), (12, 6)), ((((10 ** 6, 143),) * 6, ((0, 1),)),))))
        self.assertEqual(books_oracle.breaches(book)[0], breach(book))

    def test_without_kinds(self):
        self.assertIsNone(breach(Book(((1, 6),), ())))
        self.assertIs(calm(Book(((0, 6),), ())), True)

    def test_the_cap_of_the_sea_means_nothing(self):
        for cap in (1, 6):
            self.assertIs(calm(Book(((0, cap), (1, 1)), ((ONE, ((0, 1),)),))), True)
            self.assertEqual(breach(Book(((0, cap), (1, 2)), ((ONE, ((0, 1),)),))), (0, (0, 1), (1, 1)))

    def test_against_the_words(self):
        seen = {}
        for book in books(400, (0, 1, 2, 3, 5)):
            due = books_oracle.breaches(book)
            self.assertEqual(breach(book), due[0] if due else None)
            self.assertIs(calm(book), not due)
            seen[bool(due)] = seen.get(bool(due), 0) + 1
        self.assertGreater(min(seen.values()), 50)
        for rng in many_times(50):
            book = some_book(rng, (7, 11, 12, 5, 0), LISTS)
            due = books_oracle.breaches(book)
            self.assertEqual(breach(book), due[0] if due else None)

    def test_is_breach(self):
        for thing in ((0, (0, 0), (2, 1)), (0, (0, 0), (4, 1)), (0, (0, 0), (5, 1)), (0, (0, 0), (6, 1))):
            self.assertIs(is_breach(TIGHT, thing), True, thing)
        for thing in ((0, (0, 0), (1, 1)), (0, (0, 0), (3, 1)), (0, (0, 0), (7, 1)), (0, (0, 0), (5, 2)),
                      (0, (0, 0), (-2, 1)), (0, (0, 0), (0, 1)), (0, (0, 0), (4, 2)), (1, (0, 0), (2, 1)),
                      (0, (0, 1), (2, 1)), (-1, (0, 0), (2, 1)), (False, (0, 0), (2, 1)), (0, (0, False), (2, 1)),
                      (0, [0, 0], (2, 1)), [0, (0, 0), (2, 1)], (0, (0, 0), 2), (0, (0, 0)), None, TIGHT):
            self.assertIs(is_breach(TIGHT, thing), False, thing)

    def test_just_the_breaches_are_breaches(self):
        for book in books(100):
            due = books_oracle.breaches(book)
            for number, (_, joins) in enumerate(book.kinds):
                for join in joins:
                    for drop in books_oracle.drops(book.sorts, join):
                        thing = (number, join, oracle.pair(drop))
                        self.assertIs(is_breach(book, thing), thing in due)
                        halved = (number, join, oracle.pair(drop / 2))
                        self.assertIs(is_breach(book, halved), halved in due)

    def test_wrong_things(self):
        two = Book(((1, 6), (1, 6)), ((STEPS, ((0, 0), (0, 1))), (STEPS, ((1, 1),))))
        for book, thing in ((TIGHT, (0, (0, 0), (2, 1))), (two, (0, (0, 1), (5, 1))), (two, (1, (1, 1), (2, 1)))):
            self.assertIs(is_breach(book, thing), True)
            for other in spoiled(thing):
                self.assertIs(is_breach(book, other), books_oracle.is_breach(book, other), other)


class SwayWebTest(OddCase):
    def check(self, book, thing):
        web, sorts, one, other = told = sway_web(book, thing)
        self.assertIs(type(told), tuple)
        self.assertIs(type(web), Web)
        self.assertIsNone(fault(book, web, sorts))
        self.assertEqual(oracle.fault(book, web, sorts), None)
        self.assertTrue(oracle.right_filling(web, one) and oracle.right_filling(web, other))
        self.assertNotEqual(one, other)
        self.assertEqual((oracle.tick(web, one, None), oracle.tick(web, other, None)), (other, one))
        self.assertIs(is_sway(web, (one, other)), True)

    def test_named_joins(self):
        itself = Book(((3, 2),), ((((1, 3), (1, 1)), ((0, 0),)),))
        sea = Book(((2, 3), (0, 1), (5, 1)), ((((1, 3),), ((0, 1), (1, 2))), (((1, 7),) * 6, ((1, 2), (2, 2)))))
        first = Book(((0, 4), (7, 6)), ((((1, 7), (2, 7)), ((0, 1),)),))
        unlike = Book(((12, 6), (11, 5)), ((((1, 100), (2, 1)), ((0, 1),)),))
        most = Book(((1, 6),), ((((1, 1), (6, 1), (12, 1), (20, 1), (30, 1), (36, 1)), ((0, 0),)),))
        for book in (TIGHT, itself, sea, first, unlike, most):
            found = books_oracle.breaches(book)
            self.assertGreater(len(found), 1)
            for thing in found:
                self.check(book, thing)

    def test_all_breaches_of_many_books(self):
        checked = {}
        for book in books(150, (0, 1, 1, 2, 3, 4)):
            for thing in books_oracle.breaches(book)[::7]:
                self.check(book, thing)
                i, j = thing[1]
                kind = "itself" if i == j else "sea" if book.sorts[i][0] * book.sorts[j][0] == 0 else "other"
                checked[kind] = checked.get(kind, 0) + 1
        self.assertGreater(min(checked[kind] for kind in ("itself", "sea", "other")), 30)

    def test_drops_that_overshoot_further_and_further(self):
        for thresholds in (((1, 1), (9, 1), (9, 1), (30, 1)), ((1, 1),) * 3 + ((29, 1), (29, 1), (31, 1)),
                           ((25, 1),) * 6, ((6, 1),) * 3 + ((20, 1), (25, 1), (26, 1))):
            for cap in range(1, 7):
                book = Book(((1, cap), (2, 7 - cap)), ((thresholds, ((0, 0), (0, 1), (1, 1))),))
                for thing in books_oracle.breaches(book):
                    self.check(book, thing)

    def test_wrong_things(self):
        for other in spoiled((0, (0, 0), (2, 1))):
            if books_oracle.is_breach(TIGHT, other):
                self.check(TIGHT, other)
            else:
                self.assertEqual(answer(sway_web, TIGHT, other), ("NoBreach", {}), other)
        self.refuses("NoBreach", {}, sway_web, TIGHT, (0, (0, 0), (3, 1)))
        self.refuses("NoBreach", {}, sway_web, Book(((1, 1),), ()), (0, (0, 0), (1, 1)))


class LossTest(OddCase):
    def test_ordinary(self):
        self.assertEqual(loss(Book(((1, 1),), ((((2, 1),), ((0, 0),)),))), (2, 1))
        self.assertEqual(loss(Book(((1, 1),), ((((3, 2),), ((0, 0),)),))), (2, 1))
        self.assertEqual(loss(Book(((1, 2),), ((((3, 1), (5, 1), (7, 1)), ((0, 0),)),))), (2, 1))
        self.assertEqual(loss(Book(((2, 1), (0, 6)), ((((1, 1), (2, 1)), ((0, 1),)), (((4, 1),), ((0, 0),))))), (3, 2))

    def test_without_kinds(self):
        self.assertIsNone(loss(Book(((1, 6),), ())))
        self.assertEqual(most_measures(Book(((1, 6),), ()), Web((1, 1), ()), (0, 0), (99, -99)), 0)

    def test_not_calm(self):
        self.refuses("NotCalm", {}, loss, TIGHT)
        self.refuses("NotCalm", {}, loss, Book(((1, 1),), ((ONE, ((0, 0),)),)))

    def test_against_the_words(self):
        many = 0
        for book in books(500, (0, 1, 2, 3, 5)):
            if books_oracle.breaches(book):
                self.refuses("NotCalm", {}, loss, book)
            else:
                due = books_oracle.loss(book)
                self.assertEqual(loss(book), due and oracle.pair(due))
                many += due is not None
        self.assertGreater(many, 50)

    def test_great_tops(self):
        far = tuple((10 ** 6 - k, 1) for k in range(5, -1, -1))
        self.assertEqual(loss(Book(((1, 6),), ((far, ((0, 0),)),))), (2 * 10 ** 6 - 6 * 12, 1))


class MostMeasuresTest(OddCase):
    web = Web((3, 3, 0, 2, 3), ((0, 1, ((1, 1), (2, 1))), (1, 2, ((2, 1),)), (3, 4, ((1, 1), (2, 1)))))
    sorts = (0, 0, 1, 2, 0)
    filling = (9, -4, 0, 7, 20)

    def due(self, book, web, filling):
        lost = books_oracle.loss(book)
        return 0 if lost is None else (oracle.square(web, filling) - books_oracle.idle(web, filling)) // lost

    def test_parts_with_and_without_a_sea(self):
        self.assertTrue(calm(WIDE))
        self.assertEqual(most_measures(WIDE, self.web, self.sorts, self.filling),
                         self.due(WIDE, self.web, self.filling))
        book = Book(((1, 1), (0, 1)), ((((2, 1),), ((0, 0), (0, 1))),))
        self.assertEqual(most_measures(book, Web((1, 1), ((0, 1, ((2, 1),)),)), (0, 0), (5, 0)), 6)
        self.assertEqual(most_measures(book, Web((1, 0), ((0, 1, ((2, 1),)),)), (0, 1), (5, 0)), 12)
        self.assertEqual(most_measures(book, Web((1, 0), ((0, 1, ((2, 1),)),)), (0, 1), (4, 0)), 8)
        self.assertEqual(most_measures(book, Web((1, 0), ()), (0, 1), (7, 0)), 0)
        self.assertEqual(most_measures(book, Web((1, 1), ((0, 1, ((2, 1),)),)), (0, 0), (3, 3)), 0)

    def test_no_more_measures_run(self):
        many = 0
        for rng in many_times(300):
            web = some_web(rng, 5, (0, 1, 2, 3), (((7, 2),), ((9, 1), (11, 1)), ((5, 1), (8, 1)), ((12, 1),)))
            web = Web(web.widths, tuple(p for p in web.pipes if web.widths[p[0]] or web.widths[p[1]])[:5])
            book, sorts = narrowest(web)
            if not calm(book):
                continue
            filling = some_filling(rng, web)
            most = most_measures(book, web, sorts, filling)
            self.assertEqual(most, self.due(book, web, filling))
            ran = 0
            for _ in range(60):
                opening = some_opening(rng, web)
                ran += sum(map(abs, oracle.flows(web, filling, opening)))
                filling = oracle.tick(web, filling, opening)
            self.assertLessEqual(ran, most)
            many += ran > 0
        self.assertGreater(many, 50)

    def test_order_of_errors(self):
        told = [WIDE, self.web, self.sorts, self.filling]
        self.refuses("NotCalm", {}, most_measures, TIGHT, self.web, None, None)
        self.refuses("NoSorts", {}, most_measures, *told[:2], (0, 0, 1, 2), None)
        self.refuses("NotOf", {}, most_measures, *told[:2], (0, 0, 1, 2, 2), None)
        self.refuses("NotOf", {}, most_measures, WIDE, TWO, (0, 0), None)
        self.refuses("NoFilling", {}, most_measures, *told[:3], (9, -4, 1, 7, 20))

    def test_wrong_things(self):
        for other in spoiled(self.sorts):
            word, fields = answer(most_measures, WIDE, self.web, other, self.filling)
            if not oracle.right_sorts(WIDE, self.web, other):
                self.assertEqual((word, fields), ("NoSorts", {}), other)
            elif oracle.fault(WIDE, self.web, other):
                self.assertEqual((word, fields), ("NotOf", {}), other)
            else:
                self.assertEqual(word, "returned")
        self.refuses_all("NoFilling", lambda thing: oracle.right_filling(self.web, thing), most_measures,
                         (WIDE, self.web, self.sorts), self.filling, ())


class SinglyTest(OddCase):
    def test_at_equality(self):
        for threshold, due in (((1, 1), False), ((2, 1), True), ((3, 2), True)):
            self.assertIs(calm_singly(Book(((1, 6),), (((threshold,), ((0, 0),)),))), due)
        self.assertIs(calm_singly(Book(((2, 6), (0, 1)), ((((1, 4),), ((0, 1),)),))), True)
        self.assertIs(calm_singly(Book(((2, 6), (0, 1)), ((((1, 4), (1, 2)), ((0, 1),)),))), False)
        self.assertIs(calm_singly(Book(((2, 6),), ((((1, 2),), ((0, 0),)),))), False)
        self.assertIs(calm_singly(Book(((2, 6), (3, 1)), ((((5, 12),), ((0, 1),)),))), True)
        self.assertIs(calm_singly(Book(((2, 6), (3, 1)), ((((1, 3),), ((0, 1),)),))), False)
        self.assertIs(calm_singly(Book(((1, 6),), ())), True)

    def test_against_the_words(self):
        seen = {}
        for book in books(300, (0, 1, 2, 3, 5)):
            lone = Book(tuple((width, 1) for width, _ in book.sorts), book.kinds)
            due = not books_oracle.breaches(lone)
            self.assertIs(calm_singly(book), due)
            if due:
                seen[calm(book)] = True
            else:
                self.assertIs(calm(book), False)
            seen["singly", due] = True
        self.assertEqual(len(seen), 4)


class CostsTest(OddCase):
    web, sorts, filling = MostMeasuresTest.web, MostMeasuresTest.sorts, MostMeasuresTest.filling

    def test_ordinary(self):
        self.assertEqual(costs(WIDE, self.web, self.sorts, self.filling, None), ((12, 1), (0, 1), (8, 1)))
        self.assertEqual(costs(WIDE, self.web, self.sorts, self.filling, (0,)), ((12, 1), (0, 1), (0, 1)))
        self.assertEqual(costs(WIDE, self.web, self.sorts, self.filling, ()), ((0, 1),) * 3)
        self.assertEqual(costs(TIGHT, Web((1,), ()), (0,), (5,), None), ())

    def test_a_book_that_is_not_calm(self):
        web = Web((1, 1), ((0, 1, STEPS),))
        self.assertEqual(costs(TIGHT, web, (0, 0), (2, 0), None), ((0, 1),))
        self.assertEqual(costs(TIGHT, web, (0, 0), (0, 5), None), ((-6, 1),))

    def test_against_the_words_and_the_square(self):
        for rng in many_times(300):
            web = some_web(rng, 5, (0, 1, 2, 3), SMALL[:5])
            web = Web(web.widths, tuple(p for p in web.pipes if web.widths[p[0]] or web.widths[p[1]])[:5])
            book, sorts = narrowest(web)
            filling, opening = some_filling(rng, web), some_opening(rng, web)
            found = costs(book, web, sorts, filling, opening)
            self.assertEqual(found, tuple(map(oracle.pair, books_oracle.costs(book, web, sorts, filling, opening))))
            fall = oracle.square(web, filling) - oracle.square(web, oracle.tick(web, filling, opening))
            self.assertGreaterEqual(fall, sum((Fraction(*each) for each in found), Fraction(0)))

    def test_order_of_errors(self):
        self.refuses("NoSorts", {}, costs, WIDE, self.web, None, None, (9,))
        self.refuses("NotOf", {}, costs, WIDE, self.web, (0,) * 5, None, (9,))
        self.refuses("NoFilling", {}, costs, WIDE, self.web, self.sorts, None, (9,))
        self.refuses("NoOpening", {}, costs, WIDE, self.web, self.sorts, self.filling, (9,))

    def test_wrong_things(self):
        for other in spoiled(self.sorts):
            word, fields = answer(costs, WIDE, self.web, other, self.filling, None)
            if not oracle.right_sorts(WIDE, self.web, other):
                self.assertEqual((word, fields), ("NoSorts", {}), other)
            elif oracle.fault(WIDE, self.web, other):
                self.assertEqual((word, fields), ("NotOf", {}), other)
            else:
                self.assertEqual(word, "returned")
        self.refuses_all("NoFilling", lambda thing: oracle.right_filling(self.web, thing), costs,
                         (WIDE, self.web, self.sorts), self.filling, (None,))
        self.refuses_all("NoOpening", lambda thing: oracle.right_opening(self.web, thing), costs,
                         (WIDE, self.web, self.sorts, self.filling), (0, 2), ())

    def test_sorts_that_sorts_of_tells(self):
        self.assertEqual(sorts_of(WIDE, self.web), self.sorts)


if __name__ == "__main__":
    unittest.main()
