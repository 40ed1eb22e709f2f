"""Hangs, tables, and ringless webs that sway [7.1, 7.2]."""

import unittest
from itertools import product

import oracle
import patterns_oracle
from making import many_times, some_book, some_filling
from odd import OddCase, STEPS, TIGHT, spoiled
from twotides.books import Book, fault
from twotides.hangs import fits, flows_below, hang_table, is_hang_table, ringless_sway
from twotides.patterns import stills
from twotides.sways import is_sway, sway
from twotides.webs import Web, is_ringless, parts

ONE, TWOS, THREE = ((1, 1),), ((2, 1),), ((3, 1),)
FEW = (ONE, TWOS, ((3, 2),), THREE, ((2, 1), (4, 1)), ((5, 3), (9, 4)), ((2, 3),), ((5, 1),))
CALM = Book(((1, 2),), ((THREE, ((0, 0),)),))
SEA = Book(((0, 1), (2, 2)), ((((2, 3),), ((0, 1),)), (((5, 3),), ((1, 1),))))


def small_book(rng, widths=(0, 1, 1, 2), lists=FEW):
    book = some_book(rng, widths, lists)
    sorts = tuple((width, min(cap, 2 + (rng.random() < 0.3))) for width, cap in book.sorts[:2])
    kinds = []
    for told, joins in book.kinds[:2]:
        joins = tuple(join for join in joins if max(join) < len(sorts))
        if joins:
            kinds.append((told, joins))
    return Book(sorts, tuple(kinds))


def wide_book(rng):
    """A book up to the limits that callers keep in this section."""
    book = some_book(rng, (0, 1, 2, 3, 3), FEW + (STEPS, ((7, 3), (7, 2), (9, 2)), ((4, 3), (10, 3), (6, 1))))
    sorts = tuple((width, min(cap, 3)) for width, cap in book.sorts[:3])
    kinds = []
    for told, joins in book.kinds[:3]:
        joins = tuple(join for join in joins if max(join) < len(sorts))
        if joins:
            kinds.append((told, joins))
    return Book(sorts, tuple(kinds))


def trees(book, many):
    """All ringless webs of the book that hang together, with so many vessels, most of them several times."""
    for sorts in product(range(len(book.sorts)), repeat=many):
        widths = tuple(book.sorts[sort][0] for sort in sorts)
        for above in product(*(range(k) for k in range(1, many))):
            for kinds in product(range(len(book.kinds)), repeat=many - 1):
                pipes = tuple((above[k], k + 1, book.kinds[kinds[k]][0]) for k in range(many - 1))
                web = Web(widths, pipes)
                if fault(book, web, sorts) is None:
                    yield web, sorts


class TableTest(OddCase):
    def test_ordinary(self):
        self.assertEqual(hang_table(CALM), ((0, 0, 0, -1, -1), (0, 0, 0, 0, 0), (0, 0, 0, 1, 1)))
        self.assertIsNone(hang_table(TIGHT))
        self.assertEqual(hang_table(SEA), patterns_oracle.Tables(SEA).least())

    def test_without_kinds(self):
        book = Book(((1, 3), (0, 2)), ())
        self.assertEqual(hang_table(book), ())
        self.assertIs(is_hang_table(book, ()), True)
        self.assertIs(is_hang_table(book, []), False)
        self.assertIs(is_hang_table(book, ((0, 0, 0, 0, 0),)), False)
        self.assertIsNone(ringless_sway(book))

    def test_caps_of_1(self):
        book = Book(((1, 1),), ((TWOS, ((0, 0),)),))
        self.assertEqual(hang_table(book), ((0, 0, 0, -1, -1), (0, 0, 0, 0, 0), (0, 0, 0, 1, 1)))
        self.assertIsNone(hang_table(Book(((1, 1),), ((ONE, ((0, 0),)),))))

    def test_just_one_of_both_is_there(self):
        seen = {}
        for rng in many_times(150):
            book = small_book(rng)
            table = hang_table(book)
            self.assertEqual(table, patterns_oracle.Tables(book).least(), (book.sorts, book.kinds))
            self.assertIs(ringless_sway(book) is None, table is not None)
            if table is not None:
                self.assertIs(is_hang_table(book, table), True)
            seen[table is None] = seen.get(table is None, 0) + 1
        self.assertGreater(min(seen.values()), 40)

    def test_one_hang_more_and_one_less(self):
        checked = {}
        for rng in many_times(60):
            book = small_book(rng)
            table = hang_table(book)
            if not table:
                continue
            tables = patterns_oracle.Tables(book)
            for hang in table[:12]:
                self.assertIs(is_hang_table(book, tuple(other for other in table if other != hang)), False)
            for hang in product(range(len(book.sorts)), range(len(book.kinds)), range(2), (-1, 0, 1, 2), (-2, 0, 1, 3)):
                if hang not in table and rng.random() < 0.2:
                    more = tuple(sorted((*table, hang)))
                    due = tables.is_table(more)
                    self.assertIs(is_hang_table(book, more), due, (book.sorts, book.kinds, more))
                    checked[due] = checked.get(due, 0) + 1
        self.assertGreater(min(checked.values()), 10)

    def test_hangs_that_come_to_others_and_to_a_sway(self):
        seen = {}
        for rng in many_times(120, 6):
            book = small_book(rng, (0, 1, 2, 3, 3))
            if not book.kinds:
                continue
            tables = patterns_oracle.Tables(book)
            closed = tables.closed()
            due = tables.is_table(closed)
            self.assertIs(hang_table(book) is not None, due)
            self.assertIs(is_hang_table(book, closed), due)
            sort = rng.randrange(len(book.sorts))
            hang = (sort, rng.randrange(len(book.kinds)), rng.randrange(max(book.sorts[sort][0], 1)),
                    rng.choice((-1, 1)), rng.randint(-4, 4) if book.sorts[sort][0] else 0)
            if tables.right_hang(hang):
                for more in (tuple(sorted({*closed, hang})), tables.closed((*closed, hang))):
                    here = tables.is_table(more)
                    self.assertIs(is_hang_table(book, more), here, (book.sorts, book.kinds, more))
                    seen[due, here] = seen.get((due, here), 0) + 1
        self.assertGreater(min(seen[True, True], seen[True, False], seen[False, False]), 4)

    def test_what_fits_below_a_vessel(self):
        seen = {}
        for rng in many_times(150, 9):
            book = wide_book(rng)
            tables, vessels = patterns_oracle.Tables(book), list(patterns_oracle.Tables(book).vessels())
            hangs = [(sort, kind, rest, ran, net if width else 0) for sort, (width, _) in enumerate(book.sorts)
                     for kind in tables.kinds(sort) for rest in range(max(width, 1)) for ran in (-2, -1, 0, 1, 3)
                     for net in (-7, -2, 1, 4, 9) if abs(ran) <= len(book.kinds[kind][0])]
            for _ in range(40 if hangs and vessels else 0):
                hang, vessel = rng.choice(hangs), rng.choice(vessels)
                due = tables.fits(hang, vessel)
                self.assertIs(fits(book, hang, vessel), due, (book.sorts, book.kinds, hang, vessel))
                seen[due] = seen.get(due, 0) + 1
                lot = rng.sample(hangs, min(len(hangs), 30))
                flows = {each[3] for each in lot if tables.fits(each, vessel)}
                self.assertEqual(sorted(flows_below(book, lot, vessel)), sorted(flows))
        self.assertGreater(min(seen.values()), 500)

    def test_wide_vessels(self):
        for rng in many_times(60, 8):
            book = small_book(rng, (2, 3, 3, 3, 0), FEW + (((1, 1), (3, 2)), ((7, 6),), ((4, 3), (5, 2))))
            book = Book(tuple((width, min(cap, 2)) for width, cap in book.sorts), book.kinds)
            self.assertEqual(hang_table(book), patterns_oracle.Tables(book).least(), (book.sorts, book.kinds))

    def test_order_and_kinds(self):
        table = hang_table(CALM)
        for wrong in (table[::-1], list(table), table + table[-1:], table[1:] + table[:1], (), (table,), None, CALM,
                      ((0, 0, 0, False, 0), *table[1:]), (list(table[0]), *table[1:]), (table[0][:4], *table[1:]),
                      (*table, (0, 0, 1, 0, 0)), (*table, (0, 1, 0, 0, 0)), (*table, (1, 0, 0, 0, 0)),
                      (*table, (0, 0, 0, 2, 2)), ((-1, 0, 0, 0, 0), *table)):
            self.assertIs(is_hang_table(CALM, wrong), False, wrong)
        more = (*table, (0, 0, 0, 1, 10 ** 39))
        self.assertIs(is_hang_table(CALM, more), patterns_oracle.Tables(CALM).is_table(more))
        still = tuple(sorted((*table, (0, 0, 0, 0, 10 ** 39))))
        self.assertIs(is_hang_table(CALM, still), True)

    def test_hangs_of_the_sea(self):
        table = hang_table(SEA)
        seas = [hang for hang in table if hang[0] == 0]
        self.assertEqual(seas, [(0, 0, 0, -1, 0), (0, 0, 0, 0, 0), (0, 0, 0, 1, 0)])
        for hang in seas:
            self.assertIs(is_hang_table(SEA, tuple(other for other in table if other != hang)), False)
        for hang in ((0, 0, 0, 0, 1), (0, 0, 1, 0, 0), (0, 1, 0, 0, 0)):
            self.assertIs(is_hang_table(SEA, tuple(sorted((*table, hang)))), False)

    def test_wrong_things(self):
        for book in (CALM, SEA):
            table, tables = hang_table(book), patterns_oracle.Tables(book)
            for other in spoiled(table[:4] if len(table) > 6 else table):
                self.assertIs(is_hang_table(book, other), tables.is_table(other), other)

    def test_it_ends_in_good_time(self):
        for rng in many_times(150, 2):
            book = wide_book(rng)
            table = hang_table(book)
            if table is not None:
                self.assertIs(is_hang_table(book, table), True)
        book = Book(((3, 3), (3, 3), (2, 3)), tuple((told, ((0, 0), (0, 1), (0, 2), (1, 1), (1, 2), (2, 2)))
                                                    for told in (((1, 1), (2, 1), (3, 1)), STEPS, THREE)))
        every = tuple((sort, kind, rest, ran, net) for sort in range(3) for kind in range(3)
                      for rest in range(book.sorts[sort][0]) for ran in range(-1, 2) for net in range(-9, 10))
        self.assertIs(is_hang_table(book, every), False)


class RinglessSwayTest(OddCase):
    def check(self, book):
        web, sorts, one, other = told = ringless_sway(book)
        self.assertEqual(list(map(type, told)), [Web, tuple, tuple, tuple])
        self.assertIsNone(fault(book, web, sorts))
        self.assertIsNone(oracle.fault(book, web, sorts))
        self.assertIs(is_ringless(web), True)
        self.assertTrue(all(low < high for low, high, _ in web.pipes))
        self.assertNotEqual(one, other)
        self.assertTrue(oracle.right_filling(web, one) and oracle.right_filling(web, other))
        self.assertEqual((oracle.tick(web, one, None), oracle.tick(web, other, None)), (other, one))
        self.assertIs(is_sway(web, (one, other)), True)
        return web

    def test_ordinary(self):
        self.assertEqual(len(self.check(TIGHT).widths), 5)
        self.assertEqual(self.check(Book(((1, 1),), ((ONE, ((0, 0),)),))).widths, (1, 1))
        self.assertIsNone(ringless_sway(CALM))

    def test_with_the_sea(self):
        book = Book(((2, 1), (0, 1)), ((((1, 4),), ((0, 1),)),))
        self.assertIsNone(ringless_sway(book))
        web = self.check(Book(((2, 2), (0, 1)), ((((1, 4),), ((0, 1),)),)))
        self.assertEqual(sorted(web.widths), [0, 0, 2])
        # The waters of two seas are the same, so between them levels cannot go round.
        row = Book(((3, 2), (0, 1)), ((((1, 3),), ((0, 0), (0, 1))),))
        self.check(row)

    def test_as_few_vessels_as_possible(self):
        sizes = {}
        for rng in many_times(120, 3):
            book = small_book(rng, (0, 1, 1, 2), FEW)
            told = ringless_sway(book)
            size = 99 if told is None else len(self.check(book).widths)
            sizes[size] = sizes.get(size, 0) + 1
            for many in range(1, min(size, 5)):
                for web, _ in trees(book, many):
                    self.assertTrue(stills(web), (book.sorts, book.kinds, web.widths, web.pipes))
        self.assertGreater(len(sizes), 3)
        self.assertGreater(sizes[99], 20)

    def test_named_books_with_few_vessels(self):
        third = ((2, 3),)
        for sorts, kinds, many in (
            (((0, 3), (1, 3)), ((((2, 1), (4, 1)), ((0, 1), (1, 1))), (third, ((0, 1),))), 3),
            (((0, 3), (1, 3), (2, 3)), ((third, ((0, 1),)), (STEPS, ((1, 1), (1, 2)))), 3),
            (((2, 2), (1, 2)), ((third, ((0, 1), (1, 1))),), 2),
            (((2, 3), (0, 3), (1, 2)), ((((7, 3), (7, 2), (9, 2)), ((0, 0), (0, 2))),
                                        (((2, 1), (4, 1)), ((0, 2), (2, 2)))), 9),
        ):
            self.assertEqual(len(self.check(Book(sorts, kinds)).widths), many)

    def test_ringless_webs_of_a_book_with_a_table_come_to_rest(self):
        for rng in many_times(60, 4):
            book = small_book(rng)
            if hang_table(book) is not None and book.kinds:
                for number, (web, _) in enumerate(trees(book, 4)):
                    if number % 17 == 0:
                        _, one, other = sway(web, some_filling(rng, web, 9))
                        self.assertEqual(one, other)

    def test_more_vessels_than_are_constructed(self):
        every = ((0, 1), (0, 2), (1, 1), (1, 2), (2, 2))
        book = Book(((3, 3), (1, 2), (1, 3)), ((((7, 1),), every), (((7, 6), (10, 3)), ((0, 1), (1, 1))),
                                               (((7, 2), (25, 6), (8, 1)), ((0, 1), (1, 2), (2, 2)))))
        web = self.check(book)
        self.assertEqual(len(web.widths), 16)
        self.assertEqual(len(parts(web)), 1)
        _, sorts, one, other = ringless_sway(book)
        self.assertEqual(sway(web, one), (0, one, other))
        self.assertEqual(web, ringless_sway(book)[0])
        self.assertEqual(fault(book, web, sorts), None)

    def test_wide_books(self):
        found = {}
        for rng in many_times(150, 5):
            book = wide_book(rng)
            if hang_table(book) is None:
                found[len(self.check(book).widths)] = True
            else:
                self.assertIsNone(ringless_sway(book))
        self.assertGreater(len(found), 3)


if __name__ == "__main__":
    unittest.main()
