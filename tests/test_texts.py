"""Texts of webs, books, fillings and openings, and what is read in them [13]."""

import re
import unittest
from math import gcd

import oracle
from making import many_times, some_book, some_filling, some_opening, some_web
from odd import OddCase, STEPS, TIGHT, TWO, answer, odd_things
from twotides.books import Book
from twotides.hangs import ringless_sway
from twotides.reading import read_book, read_filling, read_log, read_web
from twotides.texts import book_text, filling_text, log_text, web_text
from twotides.webs import Web

ONE = ((1, 1),)
CHAIN = Web((1, 0, 2), ((0, 1, ONE), (0, 2, STEPS)))
NUMBER = "(?:0|[1-9][0-9]{0,8})"
WATER = f"(?:{NUMBER}|-[1-9][0-9]{{0,8}})"
PART = f"{NUMBER}(?:/[1-9][0-9]{{0,8}})?"
WIDTHS = re.compile(rf"widths(?: {NUMBER})+")
PIPE = re.compile(rf"pipe {NUMBER} {NUMBER}(?: {PART})+")
SORT = re.compile(rf"sort {NUMBER} {NUMBER}")
KIND = re.compile(rf"kind(?: {PART})+ :(?: {NUMBER}-{NUMBER})+")
WATERS = re.compile(rf"{WATER}(?: {WATER})*")
OPENING = re.compile(rf"all|none|{NUMBER}(?: {NUMBER})*")
SIGNS = "0123456789 /:-|\tabcpkwsx+.,\n\n"


def is_line(pattern, line):
    """Whether a line has a form, and its fractions are in lowest terms."""
    parts = re.findall(r"(\d+)/(\d+)", line)
    return bool(pattern.fullmatch(line)) and all(gcd(int(a), int(b)) == 1 and b != "1" for a, b in parts)


def wrong_line(text, form):
    """The line with which BadText is due, None if there is none; form tells the pattern for each line."""
    if type(text) is not str:
        return 0
    *lines, last = text.split("\n")
    ahead = []
    for number, line in enumerate(lines, 1):
        if not form(ahead, line):
            return number
        ahead.append(line)
    return len(lines) + 1 if last or not lines else None


def web_form(ahead, line):
    return is_line(PIPE if ahead else WIDTHS, line)


def book_form(ahead, line):
    if line.startswith("sort") and any(other.startswith("kind") for other in ahead):
        return False
    return is_line(SORT, line) or is_line(KIND, line)


def filling_form(ahead, line):
    return not ahead and is_line(WATERS, line)


def log_form(ahead, line):
    return is_line(OPENING, line)


def mangled(rng, text):
    """A text with something changed in a few places."""
    for _ in range(rng.choice((1, 1, 2))):
        at = rng.randint(0, len(text))
        way = rng.randrange(5)
        if way == 0:
            text = text[:at] + rng.choice(SIGNS) + text[at:]
        elif way == 1:
            text = text[:at] + text[at + 1:]
        elif way == 2:
            text = text[:at] + rng.choice(SIGNS) + text[at + 1:]
        else:
            lines = text.split("\n")
            k = rng.randrange(len(lines))
            lines.insert(rng.randint(0, len(lines)), lines[k])
            if way == 4:
                del lines[k]
            text = "\n".join(lines)
    return text


class TextsTest(OddCase):
    def test_example(self):
        self.assertEqual(web_text(TWO), "widths 1 1\npipe 0 1 1\n")

    def test_webs(self):
        self.assertEqual(web_text(Web((0,), ())), "widths 0\n")
        self.assertEqual(web_text(Web((12, 0, 3), ())), "widths 12 0 3\n")
        both = Web((1, 0, 2), ((0, 2, ((1, 144), (1, 2), (7, 2))), (0, 1, ONE * 6), (0, 2, ((10 ** 6, 1),))))
        self.assertEqual(web_text(both),
                         "widths 1 0 2\npipe 0 2 1/144 1/2 7/2\npipe 0 1 1 1 1 1 1 1\npipe 0 2 1000000\n")

    def test_books(self):
        self.assertEqual(book_text(Book(((3, 6),), ())), "sort 3 6\n")
        self.assertEqual(book_text(TIGHT), "sort 1 2\nkind 2 4 5 : 0-0\n")
        more = Book(((0, 1), (2, 3)), ((((1, 2),), ((0, 1), (1, 1))), (STEPS, ((1, 1),))))
        self.assertEqual(book_text(more), "sort 0 1\nsort 2 3\nkind 1/2 : 0-1 1-1\nkind 2 4 5 : 1-1\n")

    def test_fillings(self):
        for filling, text in (((0,), "0\n"), ((5, 0, -17), "5 0 -17\n"),
                              ((10 ** 39, -10 ** 39), f"{10 ** 39} -{10 ** 39}\n")):
            self.assertEqual(filling_text(filling), text)

    def test_logs(self):
        for openings, text in (([], ""), ((), ""), ([None], "all\n"), ([()], "none\n"), ([(0,)], "0\n"),
                               (((0, 3, 11), None, (), (2,)), "0 3 11\nall\nnone\n2\n")):
            self.assertEqual(log_text(openings), text)

    def test_against_the_forms(self):
        for rng in many_times(200):
            web, book = some_web(rng, 9, most_pipes=36), some_book(rng)
            openings = [some_opening(rng, web) for _ in range(rng.randint(0, 9))]
            for text, form in ((web_text(web), web_form), (book_text(book), book_form),
                               (filling_text(some_filling(rng, web, 999999999)), filling_form)):
                self.assertIsNone(wrong_line(text, form), text)
            self.assertIsNone(wrong_line(log_text(openings) or "all\n", log_form))


class RoundTripTest(OddCase):
    def test_what_is_written_is_read(self):
        for rng in many_times(300):
            web, book = some_web(rng, 12, most_pipes=36), some_book(rng)
            self.assertEqual(read_web(web_text(web)), web)
            self.assertEqual(read_book(book_text(book)), book)
            filling = some_filling(rng, web, rng.choice((9, 999999999)))
            self.assertEqual(read_filling(web, filling_text(filling)), filling)
            openings = [some_opening(rng, web) for _ in range(rng.randint(0, 9))]
            self.assertEqual(read_log(web, log_text(openings)), openings)
            self.assertEqual(read_log(web, log_text(tuple(openings))), openings)

    def test_large_ones(self):
        thresholds = ((1, 144), (7, 2), (999999, 1), (10 ** 6, 1))
        web = Web(tuple(range(1, 13)), tuple((k % 11, 11, thresholds) for k in range(36)))
        self.assertEqual(read_web(web_text(web)), web)
        every = tuple(range(36))
        self.assertEqual(read_log(web, log_text([every, None, ()] * 400)), [every, None, ()] * 400)
        joins = tuple((i, j) for i in range(4) for j in range(i, 4) if j)
        book = Book(((0, 6), (1, 6), (1, 6), (12, 6)), ((((1, 144),) * 6, joins),) * 5)
        self.assertEqual(read_book(book_text(book)), book)

    def test_a_web_that_is_larger_than_one_constructed(self):
        web = ringless_sway(Book(((1, 3),), ((((2, 1), (4, 1), (5, 1)), ((0, 0),)),)))[0]
        self.assertEqual(web_text(web).count("\n"), 1 + len(web.pipes))


class ReadingTest(OddCase):
    def refuses_lines(self, call, line, *texts):
        for text in texts:
            self.refuses("BadText", {"line": line}, call, text)

    def test_webs(self):
        self.assertEqual(read_web("widths 1 0 12\n"), Web((1, 0, 12), ()))
        self.assertEqual(read_web("widths 1 0\npipe 0 1 1/2 3\npipe 0 1 1\n"),
                         Web((1, 0), ((0, 1, ((1, 2), (3, 1))), (0, 1, ONE))))
        self.refuses_lines(read_web, 1, "", "\n", "\n\n", "widths", "widths\n", "widths 1", "widths  1\n",
                           " widths 1\n",
                           "widths 1 \n", "widths 01\n", "widths -1\n", "widths +1\n", "widths 1/2\n", "Widths 1\n",
                           "width 1\n", "widths 1\t1\n", "widths\t1\n", "widths 1 x\n", "widths 1234567890\n", "1 1\n",
                           "pipe 0 1 1\n", "pipe 0 1 1\nwidths 1 1\n", "sort 1 1\n", "widths 1.0\n", "widths 00\n", "x",
                           "\nwidths 1\n", "widths -0\n", "widths 1,1\n")
        self.refuses_lines(read_web, 2, "widths 1\n\n", "widths 1\nx", "widths 1 1\npipe 0 1 1", "widths 1\nwidths 1\n",
                           "widths 1 1\npipe 0 1\n", "widths 1 1\npipe 0 1 \n", "widths 1 1\npipe 0 1  1\n",
                           "widths 1 1\npipe 0 1 1 \n", "widths 1 1\n pipe 0 1 1\n", "widths 1 1\npipe 0 1 2/4\n",
                           "widths 1 1\npipe 0 1 3/1\n", "widths 1 1\npipe 0 1 3/0\n", "widths 1 1\npipe 0 1 0/1\n",
                           "widths 1 1\npipe 0 1 0/3\n", "widths 1 1\npipe 0 1 -1\n", "widths 1 1\npipe 0 1 1/02\n",
                           "widths 1 1\npipe 0 1 01/2\n", "widths 1 1\npipe 0 1 1/2/3\n", "widths 1 1\npipe 0 1 1/\n",
                           "widths 1 1\npipe 0 1 /2\n", "widths 1 1\npipe 0 1 /\n", "widths 1 1\npipe 0\n",
                           "widths 1 1\npipe 0 1 1/1234567890\n", "widths 1 1\npipe 0 1 1234567890\n",
                           "widths 1 1\npipe\n", "widths 1 1\npipe x 1 1\n", "widths 1 1\npipe 0 1 1/-2\n",
                           "widths 1 1\nPIPE 0 1 1\n", "widths 1 1\npipe 00 1 1\n", "widths 1 1\npipe 0 1 1\t2\n",
                           "widths 1 1\nx\npipe 0 1 x\n", "widths 1\n \n", "widths 1\n-")
        self.refuses_lines(read_web, 3, "widths 1 1\npipe 0 1 1\n\n", "widths 1 1\npipe 0 1 1\nwidths 1 1\n",
                           "widths 1 1\npipe 0 1 1\npipe 0 1 1", "widths 13\npipe 0 0 0\nx\ny\n")

    def test_webs_that_are_none(self):
        for text, part in (("widths 13\n", "widths"), ("widths 999999999\n", "widths"),
                           ("widths" + " 1" * 13 + "\n", "widths"),
                           ("widths 1 1\npipe 1 0 1\n", 0), ("widths 1 1\npipe 0 1 0\n", 0),
                           ("widths 1 1\npipe 0 1 1\npipe 0 2 1\n", 1), ("widths 1 1\npipe 0 1 2 1\n", 0),
                           ("widths 1 1\npipe 0 1 1/145\n", 0), ("widths 1 1\npipe 0 1 1000001\n", 0),
                           ("widths 1 1\npipe 0 1 1 1 1 1 1 1 1\n", 0), ("widths 1\npipe 0 0 1\n", 0),
                           ("widths 1 1\n" + "pipe 0 1 1\n" * 37, "pipes"), ("widths 13\npipe 9 9 0\n", "widths"),
                           ("widths 1 1\npipe 0 1 999999999/2\n", 0)):
            self.refuses("BadWeb", {"part": part}, read_web, text)
        self.assertEqual(len(read_web("widths 1 1\n" + "pipe 0 1 1\n" * 36).pipes), 36)
        self.refuses("BadText", {"line": 3}, read_web, "widths 13\npipe 1 0 0\nx\n")

    def test_books(self):
        self.assertEqual(read_book("sort 1 2\nkind 2 4 5 : 0-0\n"), TIGHT)
        self.assertEqual(read_book("sort 0 1\nsort 2 3\n"), Book(((0, 1), (2, 3)), ()))
        self.refuses_lines(read_book, 1, "", "\n", "sort 1\n", "sort 1 2 3\n", "sort\n", "sort 1 2", "sort  1 2\n",
                           "sort 1 -2\n",
                           "sort 1 2 \n", "sort 01 2\n", "Sort 1 2\n", "kind 1 : \n", "kind : 0-0\n", "kind 1 0-0\n",
                           "kind 1 :\n", "kind 1 : 0\n", "kind 1 : 0-0-0\n", "kind 1 : 0--0\n", "kind 1 : -0-0\n",
                           "sort 1 1/2\n",
                           "kind 1: 0-0\n", "kind 1 :0-0\n", "kind 1  : 0-0\n", "kind 1 : : 0-0\n", "kind 1 : 0-0 :\n",
                           "kind 2/4 : 0-0\n", "kind 1 : 0-00\n", "kind\n", "widths 1\n", "kind 1 : 0 - 0\n",
                           "kind 1 : 0-\n",
                           "kind 1 : 0-1234567890\n", "kind -1 : 0-0\n", "kind 1 : 0-0 \n", "kind 1 : 0-0  0-1\n",
                           ":\n",
                           "kind 1 : 0/1\n")
        self.refuses_lines(read_book, 2, "kind 1 : 0-0\nsort 1 2\n", "sort 1 2\n\n", "sort 1 2\nkind 1 : 0-0",
                           "sort 1 2\n ")
        self.refuses_lines(read_book, 3, "sort 1 2\nkind 1 : 0-0\nsort 1 2\n", "sort 1 2\nkind 1 : 0-0\n\nsort 1 2\n")
        self.refuses_lines(read_book, 4, "sort 1 2\nkind 1 : 0-0\nkind 1 : 0-0\nsort 1 2\n")

    def test_books_that_are_none(self):
        for text, part in (("sort 13 1\n", "sorts"), ("sort 1 7\n", "sorts"), ("sort 1 0\n", "sorts"),
                           ("sort 0 1\nsort 0 1\n", "sorts"), ("sort 1 1\n" * 5, "sorts"), ("kind 1 : 0-0\n", "sorts"),
                           ("sort 1 1\nkind 1 : 0-1\n", 0), ("sort 1 1\nsort 2 2\nkind 1 : 1-0\n", 0),
                           ("sort 0 1\nkind 1 : 0-0\n", 0), ("sort 1 1\nkind 1 : 0-0\nkind 0 : 0-0\n", 1),
                           ("sort 1 1\nkind 1 : 0-0 0-0\n", 0), ("sort 1 1\nkind 2 1 : 0-0\n", 0),
                           ("sort 1 1\n" + "kind 1 : 0-0\n" * 6, "kinds"), ("sort 1 7\nkind 0 : 9-9\n", "sorts")):
            self.refuses("BadBook", {"part": part}, read_book, text)
        self.refuses("BadText", {"line": 2}, read_book, "sort 13 1\nkind 1 : 0 0\n")

    def test_fillings(self):
        self.assertEqual(read_filling(CHAIN, "5 0 -17\n"), (5, 0, -17))
        self.assertEqual(read_filling(CHAIN, "999999999 0 -999999999\n"), (999999999, 0, -999999999))
        for line, texts in ((1, ("", "\n", "5 0 1", "5  0 1\n", " 5 0 1\n", "5 0 1 \n", "05 0 1\n", "5 -0 1\n",
                                 "+5 0 1\n", "5 0 1/2\n",
                                 "1234567890 0 1\n", "5 0 -1234567890\n", "5 0 --1\n", "5 0 -\n", "5 0 -01\n",
                                 "5\t0 1\n", "all\n", "5 0 1,\n",
                                 "\n5 0 1\n", "5 0 x\n")),
                            (2, ("5 0 1\n5 0 1\n", "5 0 1\n\n", "5 0 1\nx", "5 0 1\n ", "1\n2\n3\n"))):
            for text in texts:
                self.refuses("BadText", {"line": line}, read_filling, CHAIN, text)
        for text in ("5 0\n", "5 0 1 1\n", "5 1 1\n", "0\n"):
            self.refuses("NoFilling", {}, read_filling, CHAIN, text)

    def test_logs(self):
        self.assertEqual(read_log(CHAIN, ""), [])
        self.assertEqual(read_log(CHAIN, "all\nnone\n0\n0 1\n1\n"), [None, (), (0,), (0, 1), (1,)])
        for line, texts in ((1, ("\n", "all", "all \n", " all\n", "All\n", "0  1\n", "00\n", "-1\n", "-0\n", "0,1\n",
                                 "none 0\n", "x\n",
                                 "all all\n", "\nall\n", "1234567890\n", "0/1\n", " \n", "\t\n", "0", "+0\n",
                                 "all\t\n")),
                            (2, ("all\n\n", "all\nx", "2\nnon\n", "1 0\nall"))):
            for text in texts:
                self.refuses("BadText", {"line": line}, read_log, CHAIN, text)
        for text in ("2\n", "1 0\n", "0 0\n", "all\n0 1 2\n", "999999999\n"):
            self.refuses("NoOpening", {}, read_log, CHAIN, text)
        self.assertEqual(read_log(Web((1,), ()), "all\nnone\n"), [None, ()])
        self.refuses("NoOpening", {}, read_log, Web((1,), ()), "0\n")

    def test_things_that_are_no_strings(self):
        calls = ((read_web, ()), (read_book, ()), (read_filling, (CHAIN,)), (read_log, (CHAIN,)))
        for odd in odd_things():
            for call, ahead in calls:
                if type(odd) is not str:
                    self.refuses("BadText", {"line": 0}, call, *ahead, odd)
                elif odd or call is not read_log:
                    self.assertEqual(answer(call, *ahead, odd)[0], "BadText")

    def test_mangled_texts(self):
        words = {}
        for rng in many_times(1500):
            web, book = some_web(rng, 3, most_pipes=3), some_book(rng)
            lots = ((read_web, (), web_text(web), web_form), (read_book, (), book_text(book), book_form),
                    (read_filling, (web,), filling_text(some_filling(rng, web)), filling_form),
                    (read_log, (web,), log_text([some_opening(rng, web) for _ in range(3)]), log_form))
            for call, ahead, text, form in lots:
                text = mangled(rng, text)
                line = None if text == "" and call is read_log else wrong_line(text, form)
                word, fields = answer(call, *ahead, text)
                if line is None:
                    self.assertIn(word, ("returned", "BadWeb", "BadBook", "NoFilling", "NoOpening"), text)
                else:
                    self.assertEqual((word, fields), ("BadText", {"line": line}), text)
                words[word] = words.get(word, 0) + 1
        self.assertGreater(min(words.values()), 10)
        self.assertEqual(len(words), 6)

    def test_each_answer_is_new(self):
        read_log(CHAIN, "").append(0)
        self.assertEqual(read_log(CHAIN, ""), [])
        self.assertIsNot(read_web("widths 1\n"), read_web("widths 1\n"))
        self.assertTrue(oracle.right_filling(CHAIN, read_filling(CHAIN, "1 0 2\n")))


if __name__ == "__main__":
    unittest.main()
