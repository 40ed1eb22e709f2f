"""Reading: webs, books, fillings and openings from their texts."""

from math import gcd

from twotides.books import Book
from twotides.errors import BadText, NoOpening
from twotides.fillings import check_filling, is_opening
from twotides.webs import Web

FIGURES = "0123456789"
MOST_FIGURES = 9


def number_in(word):
    """The integer from 0 on that a word tells, or None."""
    if not 1 <= len(word) <= MOST_FIGURES or not all([sign in FIGURES for sign in word]):
        return None
    if len(word) > 1 and word[0] == "0":
        return None
    return int(word)


def water_in(word):
    """The integer that a word tells, perhaps below 0, or None."""
    if not word.startswith("-"):
        return number_in(word)
    number = number_in(word[1:])
    return None if number is None or number == 0 else -number


def fraction_in(word):
    """The fraction that a word tells, or None."""
    over, slash, under = word.partition("/")
    top = number_in(over)
    bottom = number_in(under) if slash else 1
    if top is None or bottom is None:
        return None
    # A bottom of 1 is not written, and one of 0 is none.
    if slash and (bottom < 2 or gcd(top, bottom) > 1):
        return None
    return top, bottom


def join_in(word):
    """The pair of numbers that a word tells as I-J, or None."""
    before, _, behind = word.partition("-")
    low, high = number_in(before), number_in(behind)
    return None if low is None or high is None else (low, high)


def all_in(read, words):
    """The tuple of what is read in each word, None if there is no word or nothing is read in one."""
    found = [read(word) for word in words]
    return None if not found or None in found else tuple(found)


def widths_in(line):
    """The widths that a line tells, or None."""
    word, *words = line.split(" ")
    return all_in(number_in, words) if word == "widths" else None


def pipe_in(line):
    """The pipe that a line tells, or None."""
    word, *words = line.split(" ")
    ends, thresholds = all_in(number_in, words[:2]), all_in(fraction_in, words[2:])
    if word != "pipe" or ends is None or thresholds is None:
        return None
    return (*ends, thresholds)


def sort_in(line):
    """The sort that a line tells, or None."""
    word, *words = line.split(" ")
    return all_in(number_in, words) if word == "sort" and len(words) == 2 else None


def kind_in(line):
    """The kind that a line tells, or None."""
    word, *words = line.split(" ")
    if word != "kind" or ":" not in words:
        return None
    at = words.index(":")
    thresholds, joins = all_in(fraction_in, words[:at]), all_in(join_in, words[at + 1:])
    return None if thresholds is None or joins is None else (thresholds, joins)


def opening_in(line):
    """The opening that a line tells, alone in a tuple, or None."""
    if line == "all":
        return (None,)
    if line == "none":
        return ((),)
    numbers = all_in(number_in, line.split(" "))
    return None if numbers is None else (numbers,)


def web_line(found, line):
    """What a line of a web tells behind those that were found: the widths come first."""
    return pipe_in(line) if found else widths_in(line)


def book_line(found, line):
    """What a line of a book tells behind those that were found, with its word: no sort comes behind a kind."""
    kind = kind_in(line)
    if kind is not None:
        return "kind", kind
    sort = sort_in(line)
    if sort is None or (found and found[-1][0] == "kind"):
        return None
    return "sort", sort


def filling_line(found, line):
    """The waters that the one line of a filling tells."""
    return None if found else all_in(water_in, line.split(" "))


def log_line(found, line):
    """The opening that a line tells, alone in a tuple; any may stand behind those that were found."""
    return opening_in(line)


def check_text(text):
    """Refuses what is no string."""
    if not isinstance(text, str):
        raise BadText(0)


def read_lines(text, read):
    """What is read in each line, behind those ahead of it; refuses a text with a line in which nothing is."""
    check_text(text)
    *lines, last = text.split("\n")
    found = []
    for line in lines:
        told = read(found, line)
        if told is None:
            raise BadText(len(found) + 1)
        found.append(told)
    if last or not lines:
        raise BadText(len(lines) + 1)
    return found


def read_web(text):
    """The web that a text tells."""
    widths, *pipes = read_lines(text, web_line)
    return Web(widths, tuple(pipes))


def read_book(text):
    """The book that a text tells."""
    found = read_lines(text, book_line)
    sorts = [told for word, told in found if word == "sort"]
    return Book(tuple(sorts), tuple([told for word, told in found if word == "kind"]))


def read_filling(web, text):
    """The filling of the web that a text tells."""
    filling = read_lines(text, filling_line)[0]
    check_filling(web, filling)
    return filling


def read_log(web, text):
    """The openings of the web that a text tells; an empty one tells none."""
    check_text(text)
    openings = [opening for (opening,) in read_lines(text, log_line)] if text else []
    if not all([is_opening(web, opening) for opening in openings]):
        raise NoOpening()
    return openings
