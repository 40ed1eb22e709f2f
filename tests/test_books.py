"""Books [1.3]."""

import unittest
from unittest.mock import ANY

import oracle
from making import LISTS, many_times, some_book, some_web
from odd import OddCase, STEPS, TIGHT, TWO, answer, odd_things, spoiled
from twotides.books import Book, fault, sorts_of
from twotides.webs import Web

ONE = ((1, 1),)


class BookTest(OddCase):
    def test_attributes(self):
        told = (((2, 3), (0, 1)), ((ONE, ((0, 0), (0, 1))), (ONE, ((0, 1),))))
        book = Book(*told)
        self.assertEqual((book.sorts, book.kinds), told)

    def test_edges(self):
        self.assertEqual(Book(((1, 1),), ()).kinds, ())
        self.assertEqual(len(Book(((1, 6),) * 4, ((ONE, ((0, 3),)),) * 5).kinds), 5)
        self.assertEqual(Book(((0, 6), (12, 1)), ()).sorts, ((0, 6), (12, 1)))
        for wrong in ((), ((1, 1),) * 5, ((0, 1), (0, 1)), ((0, 1), (1, 1), (0, 2)), ((1, 0),), ((1, 7),), ((13, 1),),
                      ((0, 0),), ((0, 7),), ((0, None),), [(1, 1)], ((1,),), ((1, 1, 1),), ([1, 1],), ((True, 1),),
                      ((1, True),), None):
            self.refuses("BadBook", {"part": "sorts"}, Book, wrong, None)
        self.refuses("BadBook", {"part": "kinds"}, Book, ((1, 1),), ((ONE, ((0, 0),)),) * 6)
        self.refuses("BadBook", {"part": "kinds"}, Book, ((1, 1),), [])
        self.refuses("BadBook", {"part": "kinds"}, Book, ((1, 1),), None)

    def test_wrong_kinds(self):
        right = (ONE, ((0, 1), (1, 1)))
        for wrong in ((ONE, ()), (ONE, ((0, 0),)), (ONE, ((1, 0),)), (ONE, ((0, 2),)), (ONE, ((1, 1), (0, 1))),
                      (ONE, ((0, 1), (0, 1))), (ONE, [(0, 1)]), (ONE, ((-1, 1),)), (ONE, ((False, 1),)), (ONE, (0, 1)),
                      ((), ((0, 1),)), (ONE,), (ONE, ((0, 1),), 1), [ONE, ((0, 1),)], (ONE, ((0, 1), (0, 0))),
                      (ONE, ((0, 1, 1),)), (ONE, ([0, 1],)), None):
            self.refuses("BadBook", {"part": 1}, Book, ((0, 1), (1, 1)), (right, wrong, None))

    def test_wrong_things(self):
        sorts, kinds = ((1, 3), (0, 1), (1, 1)), ((STEPS, ((0, 0), (0, 1))), (ONE, ((1, 2),)))
        cases = [(other, kinds) for other in spoiled(sorts)] + [(sorts, other) for other in spoiled(kinds)]
        for case in cases:
            part = oracle.book_part(*case)
            word, fields = answer(Book, *case)
            if part is None:
                self.assertEqual((word, fields.sorts, fields.kinds), ("returned", *case))
            else:
                self.assertEqual((word, fields), ("BadBook", {"part": part}), case)

    def test_equal_just_if_both_are(self):
        self.assertTrue(TIGHT == Book(((1, 2),), ((STEPS, ((0, 0),)),)))
        self.assertFalse(TIGHT != Book(((1, 2),), ((STEPS, ((0, 0),)),)))
        for other in (Book(((1, 3),), TIGHT.kinds), Book(TIGHT.sorts, ()), Book(TIGHT.sorts, ((ONE, ((0, 0),)),))):
            self.assertFalse(TIGHT == other)
            self.assertTrue(TIGHT != other)

    def test_equal_to_no_other_thing(self):
        for thing in [*odd_things(), TWO, ANY, (TIGHT.sorts, TIGHT.kinds)]:
            if not isinstance(thing, Book):
                self.assertIs(TIGHT == thing, False)
                self.assertIs(TIGHT != thing, True)


class FaultTest(OddCase):
    book = Book(((1, 2), (2, 1), (0, 1)), ((ONE, ((0, 0), (0, 1))), (STEPS, ((0, 2),)), (STEPS, ((1, 1),))))

    def test_none(self):
        web = Web((1, 1, 2, 0), ((0, 1, ONE), (1, 2, ONE), (0, 3, STEPS)))
        self.assertIsNone(fault(self.book, web, (0, 0, 1, 2)))

    def test_width_ahead_of_cap_ahead_of_pipe(self):
        web = Web((1, 2, 2, 1), ((0, 1, STEPS), (1, 2, STEPS), (0, 2, ONE), (0, 3, ONE)))
        self.assertEqual(fault(self.book, web, (0, 0, 0, 0)), ("width", 1))
        self.assertEqual(fault(self.book, web, (1, 1, 1, 1)), ("width", 0))
        self.assertEqual(fault(self.book, web, (0, 1, 1, 1)), ("width", 3))
        self.assertEqual(fault(self.book, web, (0, 1, 1, 0)), ("cap", 0))
        self.assertEqual(fault(self.book, Web((1, 2, 2), web.pipes[1:3]), (0, 1, 1)), ("cap", 2))
        self.assertEqual(fault(self.book, Web((1, 2, 2), web.pipes[:1]), (0, 1, 1)), ("pipe", 0))

    def test_caps_count_all_pipes_but_those_of_seas(self):
        book = Book(((1, 2), (0, 1)), ((ONE, ((0, 0), (0, 1))), (STEPS, ((0, 0),))))
        sides = ((0, 1, ONE), (0, 1, STEPS))
        self.assertIsNone(fault(book, Web((1, 1), sides), (0, 0)))
        self.assertEqual(fault(book, Web((1, 1, 0), (*sides, (1, 2, ONE))), (0, 0, 1)), ("cap", 1))
        sea = Web((1, 0, 1, 1), ((0, 1, ONE), (1, 2, ONE), (1, 3, ONE)))
        self.assertIsNone(fault(book, sea, (0, 1, 0, 0)))

    def test_pipes_by_lists_and_joins(self):
        web = Web((2, 1, 1, 0), ((0, 1, ONE), (1, 3, STEPS), (2, 3, ONE)))
        self.assertEqual(fault(self.book, web, (1, 0, 0, 2)), ("pipe", 2))
        self.assertEqual(fault(self.book, Web((0, 0), ((0, 1, ONE),)), (2, 2)), ("pipe", 0))
        self.assertIsNone(fault(self.book, Web((2, 2), ((0, 1, STEPS),)), (1, 1)))
        self.assertEqual(fault(self.book, Web((2, 2), ((0, 1, ONE),)), (1, 1)), ("pipe", 0))

    def test_against_the_words(self):
        seen = {}
        for rng in many_times(600):
            book, web = some_book(rng), some_web(rng, 4, (0, 1, 1, 2), LISTS[:3], 4)
            sorts = tuple(rng.randrange(len(book.sorts)) for _ in web.widths)
            found = fault(book, web, sorts)
            self.assertEqual(found, oracle.fault(book, web, sorts))
            seen[found and found[0]] = True
        self.assertEqual(set(seen), {None, "width", "cap", "pipe"})

    def test_wrong_things(self):
        web = Web((1, 0), ((0, 1, STEPS),))
        for other in spoiled((0, 2)):
            word, fields = answer(fault, self.book, web, other)
            if oracle.right_sorts(self.book, web, other):
                self.assertEqual((word, fields), ("returned", oracle.fault(self.book, web, other)))
            else:
                self.assertEqual((word, fields), ("NoSorts", {}), other)
        for wrong in ((0,), (0, 2, 0), (0, 3), (0, -1), [0, 2], (False, 2), (0, None)):
            self.refuses("NoSorts", {}, fault, self.book, web, wrong)


class SortsOfTest(OddCase):
    def test_ordinary(self):
        book = Book(((1, 1), (1, 2), (0, 1)), ((ONE, ((0, 1), (1, 1))), (STEPS, ((1, 2),))))
        self.assertEqual(sorts_of(book, Web((1, 1, 1), ((0, 1, ONE), (1, 2, ONE)))), (0, 1, 0))
        self.assertEqual(sorts_of(book, Web((0, 1, 1), ((0, 1, STEPS), (1, 2, ONE)))), (2, 1, 0))
        self.assertEqual(sorts_of(book, Web((1, 1), ((0, 1, ONE),))), (0, 1))
        self.assertEqual(sorts_of(book, Web((1, 1), ())), (0, 0))

    def test_none(self):
        book = Book(((1, 1), (0, 1)), ((ONE, ((0, 0),)),))
        for web in (Web((2,), ()), Web((1, 1, 1), ((0, 1, ONE), (1, 2, ONE))), Web((1, 1), ((0, 1, STEPS),)),
                    Web((0, 0), ((0, 1, ONE),)), Web((0, 1), ((0, 1, ONE),))):
            self.assertIsNone(sorts_of(book, web))

    def test_against_the_words(self):
        found = 0
        for rng in many_times(400):
            book, web = some_book(rng), some_web(rng, 5, (0, 1, 1, 2), LISTS[:3], 5)
            due = oracle.sorts_of(book, web)
            self.assertEqual(sorts_of(book, web), due)
            found += due is not None
        self.assertGreater(found, 50)

    def test_a_least_sort_that_comes_to_nothing(self):
        triangle = Web((1, 1, 1), ((0, 1, ONE), (0, 2, ONE), (1, 2, ONE)))
        self.assertEqual(sorts_of(Book(((1, 2),) * 3, ((ONE, ((0, 1), (2, 2))),)), triangle), (2, 2, 2))
        self.assertEqual(sorts_of(Book(((1, 2),) * 3, ((ONE, ((0, 1), (0, 2), (1, 2))),)), triangle), (0, 1, 2))
        self.assertIsNone(sorts_of(Book(((1, 2),) * 2, ((ONE, ((0, 1),)),)), triangle))

    def test_alike_vessels_told_apart_by_their_pipes(self):
        found = late = 0
        joins = [(i, j) for i in range(4) for j in range(i, 4)]
        for rng in many_times(300):
            kinds = tuple((told, tuple(sorted(rng.sample(joins, rng.randint(1, 5))))) for told in LISTS[:2])
            book = Book(((1, 6), (1, 6), (1, 6), (1, rng.randint(1, 6))), kinds)
            many = rng.randint(3, 5)
            ends = [(one, other) for one in range(many) for other in range(one + 1, many)]
            pipes = tuple((*end, rng.choice(LISTS[:2])) for end in rng.sample(ends, rng.randint(2, len(ends))))
            due = oracle.sorts_of(book, Web((1,) * many, pipes))
            self.assertEqual(sorts_of(book, Web((1,) * many, pipes)), due)
            found, late = found + (due is not None), late + (due is not None and due[0] > 0)
        self.assertGreater(min(found - late, late), 30)

    def test_many_vessels_ahead_of_a_part_that_cannot_be(self):
        joins = tuple((i, j) for i in range(4) for j in range(i, 4))
        book = Book(((1, 6),) * 4, ((ONE, ((0, 1), (0, 2), (1, 2))), (STEPS, joins)))
        core = [(one, other, ONE) for one in range(8, 12) for other in range(one + 1, 12)]
        self.assertIsNone(sorts_of(book, Web((1,) * 12, tuple(core))))
        hung = [(k, 8 + k % 4, STEPS) for k in range(8)]
        self.assertIsNone(sorts_of(book, Web((1,) * 12, tuple(core + hung))))
        self.assertEqual(sorts_of(book, Web((1,) * 12, tuple(core[1:] + hung))), (0,) * 8 + (0, 0, 1, 2))


if __name__ == "__main__":
    unittest.main()
