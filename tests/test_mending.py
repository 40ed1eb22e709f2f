"""Mending a book [5]."""

import unittest

import books_oracle
import oracle
from making import many_times, some_book
from odd import OddCase, STEPS, TIGHT, answer, spoiled
from test_calm import SMALL, books, right_sort
from twotides.books import Book
from twotides.calm import calm
from twotides.mending import calm_joins, cheapest, greatest_cap, least_width, mended, raised, widest

ONE = ((1, 1),)
SEA_BOOK = Book(((2, 3), (0, 2), (3, 2)), ((STEPS, ((0, 0), (0, 1), (1, 2))), (ONE, ((0, 2),))))


class WidestTest(OddCase):
    def test_example(self):
        self.assertEqual(widest(TIGHT, 0, 0, 3), ((3, 1), (5, 1), (7, 1)))

    def test_ordinary(self):
        self.assertEqual(widest(SEA_BOOK, 0, 2, 2), ((7, 6), (7, 3)))
        self.assertEqual(widest(SEA_BOOK, 2, 0, 1), ((7, 6),))
        self.assertEqual(widest(SEA_BOOK, 0, 1, 4), ((1, 1), (2, 1), (5, 2), (7, 2)))
        self.assertEqual(widest(SEA_BOOK, 2, 1, 6), ((2, 3), (1, 1), (4, 3), (5, 3), (2, 1), (7, 3)))

    def test_many(self):
        self.assertEqual(widest(TIGHT, 0, 0, 1), ((3, 1),))
        self.assertEqual(len(widest(TIGHT, 0, 0, 6)), 6)
        for many in (0, 7, -1, True, None):
            self.refuses("NoNumber", {}, widest, TIGHT, 0, 0, many)

    def test_against_the_words(self):
        for book in books(60, (0, 1, 2, 3, 5, 12)):
            for i, (width, _) in enumerate(book.sorts):
                for j in range(len(book.sorts)):
                    if i != j or width:
                        self.assertEqual(widest(book, i, j, 6), books_oracle.widest(book, i, j, 6))

    def test_no_breach_just_if_the_rounded_thresholds_are_as_wide(self):
        seen = {}
        for book in books(200, (0, 1, 2, 3)):
            for thresholds, joins in book.kinds:
                for i, j in joins:
                    told = oracle.rounded(thresholds, book.sorts[i][0], book.sorts[j][0])
                    least = widest(book, i, j, len(thresholds))
                    due = all(mine >= oracle.value(other) for mine, other in zip(told, least))
                    self.assertIs(calm(Book(book.sorts, ((thresholds, ((i, j),)),))), due)
                    seen[due] = seen.get(due, 0) + 1
        self.assertGreater(min(seen.values()), 50)

    def test_wrong_things(self):
        def right(thing):
            return right_sort(SEA_BOOK, thing)

        self.refuses_all("NoSort", right, widest, (SEA_BOOK,), 0, (2, 3))
        self.refuses_all("NoSort", right, widest, (SEA_BOOK, 0), 2, (3,))
        self.refuses_all("NoNumber", lambda thing: oracle.whole(thing, 1, 6), widest, (SEA_BOOK, 0, 2), 3, ())
        self.refuses("NoSort", {}, widest, SEA_BOOK, 1, 1, 3)
        self.refuses("NoSort", {}, widest, SEA_BOOK, 1, 1, None)
        self.refuses("NoSort", {}, widest, SEA_BOOK, 0, 3, None)


class RaisedTest(OddCase):
    def due(self, book):
        kinds = []
        for thresholds, joins in book.kinds:
            lots = [thresholds, *(books_oracle.widest(book, i, j, len(thresholds)) for i, j in joins)]
            kinds.append((tuple(max(each, key=oracle.value) for each in zip(*lots)), joins))
        return Book(book.sorts, tuple(kinds))

    def test_a_book_that_is_not_calm(self):
        self.assertEqual(raised(TIGHT), Book(((1, 2),), ((((3, 1), (5, 1), (7, 1)), ((0, 0),)),)))
        some = Book(((1, 2),), ((((7, 2), (4, 1), (9, 1)), ((0, 0),)), (ONE, ((0, 0),))))
        self.assertEqual(raised(some), Book(((1, 2),), ((((7, 2), (5, 1), (9, 1)), ((0, 0),)), (((3, 1),), ((0, 0),)))))

    def test_a_book_that_stays(self):
        for book in (Book(((1, 2),), ((((3, 1), (5, 1), (7, 1)), ((0, 0),)),)), Book(((1, 6),), ()), raised(SEA_BOOK)):
            self.assertEqual(raised(book), book)
            self.assertIs(type(raised(book)), Book)

    def test_a_calm_book_with_a_threshold_between_two_grains(self):
        book = Book(((1, 1),), ((((3, 2),), ((0, 0),)),))
        self.assertTrue(calm(book))
        self.assertEqual(raised(book).kinds, ((((2, 1),), ((0, 0),)),))

    def test_against_the_words(self):
        same = 0
        for book in books(200, (0, 1, 2, 3, 5)):
            before = book.sorts, book.kinds
            found = raised(book)
            self.assertEqual(found, self.due(book))
            self.assertIs(calm(found), True)
            self.assertEqual(raised(found), found)
            self.assertEqual((book.sorts, book.kinds), before)
            same += found == book
        self.assertGreater(same, 20)


class MendedTest(OddCase):
    def test_ordinary(self):
        self.assertEqual(mended(SEA_BOOK, ((1, 2, 2), (0,))), Book(((2, 1), (0, 2), (3, 2)), SEA_BOOK.kinds[1:]))
        self.assertEqual(mended(SEA_BOOK, ((3, 2, 2), ())), SEA_BOOK)
        self.assertEqual(mended(SEA_BOOK, ((1, 1, 1), (0, 1))), Book(((2, 1), (0, 1), (3, 1)), ()))
        self.assertEqual(mended(Book(((1, 1),), ()), ((1,), ())), Book(((1, 1),), ()))

    def test_wrong_mends(self):
        for wrong in (((4, 2, 2), ()), ((3, 3, 2), ()), ((0, 2, 2), ()), ((3, 2), ()), ((3, 2, 2, 1), ()),
                      ((3, 2, 2), (2,)), ((3, 2, 2), (1, 0)), ((3, 2, 2), (0, 0)), ((3, 2, 2), (-1,)),
                      ((3, 2, 2), [0]), ([3, 2, 2], ()), [(3, 2, 2), ()], ((3, 2, 2),), ((3, True, 2), ()),
                      ((3, 2, 2), (False,)), ((3, 2, 2), (), ()), None):
            self.refuses("NoMend", {}, mended, SEA_BOOK, wrong)
        self.refuses_all("NoMend", lambda thing: books_oracle.right_mend(SEA_BOOK, thing), mended, (SEA_BOOK,),
                         ((2, 1, 2), (0, 1)), ())


class CheapestTest(OddCase):
    def check(self, book, cap_prices, kind_prices):
        price, mend = cheapest(book, cap_prices, kind_prices)
        self.assertTrue(books_oracle.right_mend(book, mend))
        self.assertEqual(books_oracle.breaches(mended(book, mend)), [])
        self.assertEqual(books_oracle.price(book, mend, cap_prices, kind_prices), price)
        return price

    def test_ordinary(self):
        self.assertEqual(cheapest(TIGHT, (8,), (7,)), (7, ((2,), (0,))))
        self.assertEqual(cheapest(TIGHT, (5,), (7,)), (5, ((1,), ())))
        one = Book(((1, 3),), ((((2, 1),), ((0, 0),)),))
        self.assertEqual(cheapest(one, (5,), (11,)), (10, ((1,), ())))
        self.assertEqual(cheapest(one, (5,), (9,)), (9, ((3,), (0,))))

    def test_calm_already(self):
        self.assertEqual(self.check(raised(SEA_BOOK), (3, 3, 3), (3, 3)), 0)
        self.assertEqual(cheapest(Book(((1, 6),), ()), (4,), ()), (0, ((6,), ())))

    def test_prices_of_0(self):
        self.assertEqual(self.check(SEA_BOOK, (0, 0, 0), (0, 0)), 0)
        self.assertEqual(self.check(SEA_BOOK, (10 ** 6,) * 3, (0, 0)), 0)

    def test_the_greatest_prices(self):
        self.assertEqual(self.check(TIGHT, (10 ** 6,), (10 ** 6,)), 10 ** 6)
        for wrong in ((10 ** 6 + 1,), (-1,), (), (0, 0), [0], (True,), (None,)):
            self.refuses("NoPrices", {}, cheapest, TIGHT, wrong, (0,))
            self.refuses("NoPrices", {}, cheapest, TIGHT, (0,), wrong)

    def test_against_the_words(self):
        seen = {}
        for rng in many_times(25):
            book = some_book(rng, (0, 1, 1, 2, 3), SMALL)
            book = Book(tuple((width, min(cap, 3)) for width, cap in book.sorts), book.kinds[:3])
            cap_prices = tuple(rng.randint(0, 9) for _ in book.sorts)
            kind_prices = tuple(rng.randint(0, 20) for _ in book.kinds)
            price = self.check(book, cap_prices, kind_prices)
            good = [mend for mend in books_oracle.mends(book)
                    if not books_oracle.breaches(books_oracle.mended(book, mend))]
            self.assertEqual(price, min(books_oracle.price(book, mend, cap_prices, kind_prices) for mend in good))
            mend = cheapest(book, cap_prices, kind_prices)[1]
            seen[len(mend[1]) > 0, any(lower < cap for lower, (_, cap) in zip(mend[0], book.sorts))] = True
        self.assertEqual(len(seen), 4)

    def test_wrong_things(self):
        def right(many):
            return lambda thing: books_oracle.right_prices(many, thing)

        self.refuses_all("NoPrices", right(3), cheapest, (SEA_BOOK,), (1, 2, 3), ((4, 5),))
        self.refuses_all("NoPrices", right(2), cheapest, (SEA_BOOK, (1, 2, 3)), (4, 5), ())


class CapAndWidthTest(OddCase):
    def caps(self, book, sort):
        good = [cap for cap in range(1, 7) if not books_oracle.breaches(self.swapped(book, sort, cap=cap))]
        return max(good, default=None)

    def widths(self, book, sort):
        own = book.sorts[sort][0]
        good = [width for width in range(own, 13) if not books_oracle.breaches(self.swapped(book, sort, width=width))]
        return min(good, default=None)

    def swapped(self, book, sort, width=None, cap=None):
        sorts = list(book.sorts)
        sorts[sort] = (width or sorts[sort][0], cap or sorts[sort][1])
        return Book(tuple(sorts), book.kinds)

    def test_ordinary(self):
        book = Book(((1, 2), (1, 1)), ((((3, 1),), ((0, 0), (0, 1))),))
        self.assertEqual((greatest_cap(book, 0), greatest_cap(book, 1)), (2, 3))
        self.assertEqual((least_width(book, 0), least_width(book, 1)), (1, 1))
        self.assertEqual(least_width(Book(((1, 3),), ((ONE, ((0, 0),)),)), 0), 4)
        self.assertEqual(greatest_cap(Book(((1, 1),), ()), 0), 6)

    def test_none(self):
        book = Book(((1, 2), (1, 1)), ((ONE, ((0, 0), (0, 1))),))
        self.assertEqual((greatest_cap(book, 0), least_width(book, 1)), (None, None))
        self.assertIsNone(least_width(Book(((1, 6),), ((((1, 3),), ((0, 0),)),)), 0))
        self.assertEqual(least_width(Book(((12, 1),), ((((1, 6),), ((0, 0),)),)), 0), 12)
        self.assertIsNone(least_width(Book(((12, 1),), ((((1, 12),), ((0, 0),)),)), 0))

    def test_against_the_words(self):
        seen = {}
        for book in books(30, (0, 1, 1, 2, 3)):
            for sort, (width, _) in enumerate(book.sorts):
                if width:
                    found = greatest_cap(book, sort), least_width(book, sort)
                    self.assertEqual(found, (self.caps(book, sort), self.widths(book, sort)))
                    seen[found] = True
        self.assertGreater(len(seen), 8)

    def test_wrong_things(self):
        def right(thing):
            return thing != 1 and right_sort(SEA_BOOK, thing)

        for call in (greatest_cap, least_width):
            self.refuses_all("NoSort", right, call, (SEA_BOOK,), 0, ())
            for wrong in (1, 3, -1, True, None):
                self.refuses("NoSort", {}, call, SEA_BOOK, wrong)


class CalmJoinsTest(OddCase):
    def test_ordinary(self):
        self.assertEqual(calm_joins(SEA_BOOK, ((9, 1),)), [(0, 0), (0, 1), (0, 2), (1, 2), (2, 2)])
        self.assertEqual(calm_joins(SEA_BOOK, ((1, 144),)), [])
        self.assertEqual(calm_joins(SEA_BOOK, ((1, 1),)), [(0, 1), (1, 2), (2, 2)])
        self.assertEqual(calm_joins(SEA_BOOK, ((1, 2),)), [(1, 2)])
        self.assertEqual(calm_joins(Book(((0, 1),), ()), ONE), [])

    def test_against_the_words(self):
        for book in books(60):
            many = len(book.sorts)
            pairs = [(i, j) for i in range(many) for j in range(i, many) if i < j or book.sorts[i][0]]
            for thresholds in SMALL:
                due = [join for join in pairs if not books_oracle.breaches(Book(book.sorts, ((thresholds, (join,)),)))]
                self.assertEqual(calm_joins(book, thresholds), due)

    def test_wrong_things(self):
        self.refuses_all("NoList", oracle.right_list, calm_joins, (SEA_BOOK,), STEPS, ())
        self.assertEqual(answer(calm_joins, SEA_BOOK, [(1, 1)]), ("NoList", {}))


if __name__ == "__main__":
    unittest.main()
