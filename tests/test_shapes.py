"""Shapes of webs, and the narrowest book [1.5]."""

import unittest

import oracle
from making import many_times, some_web
from odd import OddCase, STEPS, answer, spoiled
from twotides.books import Book, fault
from twotides.shapes import full_web, narrowest, row_web, star_web
from twotides.webs import Web

ONE = ((1, 1),)


class RowTest(OddCase):
    def test_ordinary(self):
        self.assertEqual(row_web(3, STEPS, 3), Web((3, 3, 3), ((0, 1, STEPS), (1, 2, STEPS))))

    def test_edges(self):
        self.assertEqual(row_web(0, STEPS, 1), Web((0,), ()))
        self.assertEqual(len(row_web(12, ONE, 12).pipes), 11)
        for many in (0, 13, -1, True, None):
            self.refuses("NoNumber", {}, row_web, 1, ONE, many)

    def test_wrong_things(self):
        self.refuses_all("NoWidth", oracle.right_width, row_web, (), 3, (STEPS, 2))
        self.refuses_all("NoList", oracle.right_list, row_web, (3,), STEPS, (2,))
        self.refuses_all("NoNumber", lambda thing: oracle.whole(thing, 1, 12), row_web, (3, STEPS), 2, ())
        self.refuses("NoWidth", {}, row_web, 13, (), 0)
        self.refuses("NoList", {}, row_web, 1, (), 0)


class StarTest(OddCase):
    def test_ordinary(self):
        self.assertEqual(star_web(3, 0, STEPS, 2), Web((3, 0, 0), ((0, 1, STEPS), (0, 2, STEPS))))

    def test_edges(self):
        self.assertEqual(star_web(0, 1, ONE, 1), Web((0, 1), ((0, 1, ONE),)))
        eleven = star_web(1, 2, ONE, 11)
        self.assertEqual((eleven.widths, eleven.pipes[-1]), ((1, *(2,) * 11), (0, 11, ONE)))
        for many in (0, 12, -1, True, None):
            self.refuses("NoNumber", {}, star_web, 1, 2, ONE, many)

    def test_wrong_things(self):
        self.refuses_all("NoWidth", oracle.right_width, star_web, (), 3, (2, STEPS, 2))
        self.refuses_all("NoWidth", oracle.right_width, star_web, (2,), 3, (STEPS, 2))
        self.refuses_all("NoList", oracle.right_list, star_web, (3, 2), STEPS, (2,))
        self.refuses_all("NoNumber", lambda thing: oracle.whole(thing, 1, 11), star_web, (3, 2, STEPS), 2, ())
        self.refuses("NoWidth", {}, star_web, 1, 13, (), 0)
        self.refuses("NoList", {}, star_web, 1, 1, (), 0)


class FullTest(OddCase):
    def test_ordinary(self):
        due = Web((3, 3, 0, 0), ((0, 2, ONE), (0, 3, ONE), (1, 2, ONE), (1, 3, ONE)))
        self.assertEqual(full_web(3, 0, ONE, 2, 2), due)
        self.assertEqual(full_web(1, 2, ONE, 1, 2), Web((1, 2, 2), ((0, 1, ONE), (0, 2, ONE))))
        self.assertEqual(full_web(1, 2, ONE, 2, 1), Web((1, 1, 2), ((0, 2, ONE), (1, 2, ONE))))

    def test_edges(self):
        self.assertEqual(full_web(1, 1, ONE, 1, 1), Web((1, 1), ((0, 1, ONE),)))
        most = full_web(1, 12, STEPS, 6, 6)
        self.assertEqual((len(most.pipes), most.pipes[0][:2], most.pipes[-1][:2]), (36, (0, 6), (5, 11)))
        for many in (0, 7, -1, True, None):
            self.refuses("NoNumber", {}, full_web, 1, 2, ONE, many, 1)
            self.refuses("NoNumber", {}, full_web, 1, 2, ONE, 1, many)

    def test_wrong_things(self):
        def number(thing):
            return oracle.whole(thing, 1, 6)

        self.refuses_all("NoWidth", oracle.right_width, full_web, (), 3, (2, STEPS, 2, 1))
        self.refuses_all("NoWidth", oracle.right_width, full_web, (2,), 3, (STEPS, 2, 1))
        self.refuses_all("NoList", oracle.right_list, full_web, (3, 2), STEPS, (2, 1))
        self.refuses_all("NoNumber", number, full_web, (3, 2, STEPS), 2, (1,))
        self.refuses_all("NoNumber", number, full_web, (3, 2, STEPS, 1), 2, ())
        self.refuses("NoWidth", {}, full_web, 1, 13, (), 0, 0)
        self.refuses("NoList", {}, full_web, 1, 1, (), 0, 0)

    def test_shapes_take_all_that_is_right(self):
        for other in spoiled(STEPS):
            if oracle.right_list(other):
                word, web = answer(full_web, 1, 2, other, 2, 3)
                self.assertEqual((word, web.pipes[0][2]), ("returned", other))


class NarrowestTest(OddCase):
    def test_ordinary(self):
        web = Web((3, 0, 1, 3), ((0, 1, STEPS), (0, 2, ONE), (2, 3, STEPS), (0, 3, ONE)))
        due = Book(((0, 1), (1, 2), (3, 3)), ((ONE, ((1, 2), (2, 2))), (STEPS, ((0, 2), (1, 2)))))
        self.assertEqual(narrowest(web), (due, (2, 0, 1, 2)))

    def test_without_pipes(self):
        self.assertEqual(narrowest(Web((2, 0, 0), ())), (Book(((0, 1), (2, 1)), ()), (1, 0, 0)))

    def test_lists_ascend_as_tuples(self):
        lists = (((2, 1),), ((1, 2),), ((1, 1), (3, 1)), ((1, 1),), ((3, 2),))
        web = Web((1, 1), tuple((0, 1, told) for told in lists))
        self.assertEqual([kind[0] for kind in narrowest(web)[0].kinds], sorted(lists))

    def test_widths(self):
        self.assertEqual(len(narrowest(Web((4, 3, 2, 1, 1), ()))[0].sorts), 4)
        self.refuses("TooLarge", {"most": 4}, narrowest, Web((4, 3, 2, 1, 0), ()))

    def test_pipes_at_a_vessel(self):
        self.assertEqual(narrowest(Web((1, 1), ((0, 1, ONE),) * 6))[0].sorts, ((1, 6),))
        self.refuses("TooLarge", {"most": 6}, narrowest, Web((1, 1), ((0, 1, ONE),) * 7))
        book, sorts = narrowest(star_web(0, 1, ONE, 11))
        self.assertEqual((book.sorts, sorts), (((0, 1), (1, 1)), (0, *(1,) * 11)))

    def test_lists(self):
        lists = [((k + 1, 1),) for k in range(6)]
        web = Web((1, 1, 1), tuple((0, 1, told) for told in lists[:5]) + ((1, 2, lists[0]),))
        self.assertEqual(len(narrowest(web)[0].kinds), 5)
        self.refuses("TooLarge", {"most": 5}, narrowest, Web((1, 1), tuple((0, 1, told) for told in lists)))

    def test_order(self):
        six = tuple((0, 1, ((k + 1, 1),)) for k in range(6))
        self.refuses("TooLarge", {"most": 4}, narrowest, Web((1, 2, 3, 4, 5), six * 2))
        self.refuses("TooLarge", {"most": 6}, narrowest, Web((1, 2, 3, 4), six * 2))

    def test_the_web_is_of_it_and_of_no_narrower_one(self):
        for rng in many_times(200):
            web = some_web(rng, 6, (0, 1, 2, 3))
            web = Web(web.widths, tuple(pipe for pipe in web.pipes if web.widths[pipe[0]] or web.widths[pipe[1]]))
            word, told = answer(narrowest, web)
            if word == "TooLarge":
                continue
            book, sorts = told
            self.assertIsNone(fault(book, web, sorts))
            self.assertEqual(sorted(book.sorts), list(book.sorts))
            for sort, (width, cap) in enumerate(book.sorts):
                self.assertIn(sort, sorts)
                if cap > 1:
                    less = (*book.sorts[:sort], (width, cap - 1), *book.sorts[sort + 1:])
                    self.assertEqual(fault(Book(less, book.kinds), web, sorts)[0], "cap")
            for told, joins in book.kinds:
                for join in joins:
                    self.assertTrue(any(listed == told and sorted((sorts[one], sorts[other])) == list(join)
                                        for one, other, listed in web.pipes))


if __name__ == "__main__":
    unittest.main()
