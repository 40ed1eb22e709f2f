"""Texts: webs, books, fillings and openings written line by line."""


def fraction_text(part):
    """A fraction as its top, or as top/bottom."""
    top, bottom = part
    return str(top) if bottom == 1 else f"{top}/{bottom}"


def join_text(join):
    """A pair of numbers as I-J."""
    low, high = join
    return f"{low}-{high}"


def numbers_text(numbers):
    """Numbers with blanks between."""
    return " ".join([str(number) for number in numbers])


def line_of(words):
    """A line of words with blanks between."""
    return " ".join(words) + "\n"


def web_text(web):
    """A line of the widths, and a line for each pipe."""
    lines = [line_of(["widths", numbers_text(web.widths)])]
    for one, other, thresholds in web.pipes:
        lines.append(line_of(["pipe", str(one), str(other), *[fraction_text(part) for part in thresholds]]))
    return "".join(lines)


def book_text(book):
    """A line for each sort, and one for each kind."""
    lines = [line_of(["sort", str(width), str(cap)]) for width, cap in book.sorts]
    for thresholds, joins in book.kinds:
        listed = [fraction_text(part) for part in thresholds]
        lines.append(line_of(["kind", *listed, ":", *[join_text(join) for join in joins]]))
    return "".join(lines)


def filling_text(filling):
    """One line of the waters."""
    return line_of([numbers_text(filling)])


def opening_text(opening):
    """An opening as all, none, or its numbers."""
    if opening is None:
        return "all"
    return numbers_text(opening) if opening else "none"


def log_text(openings):
    """A line for each opening."""
    return "".join([line_of([opening_text(opening)]) for opening in openings])
