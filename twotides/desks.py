"""The desk: webs and books that are kept, and plays that are led, by lines."""

from twotides.calm import breach
from twotides.errors import NoLine, NoName, NothingDone
from twotides.patterns import calm_web
from twotides.plays import Play
from twotides.reading import number_in, read_book, read_filling, read_web
from twotides.sways import sway
from twotides.texts import fraction_text, join_text, numbers_text

LETTERS = "abcdefghijklmnopqrstuvwxyz"
MOST_LETTERS = 8


def is_name(thing):
    """Whether a thing is a name."""
    if not isinstance(thing, str) or not 1 <= len(thing) <= MOST_LETTERS:
        return False
    return all([sign in LETTERS for sign in thing])


def numbers_in(word):
    """The numbers with commas between that a word tells; refuses another word."""
    found = [number_in(part) for part in word.split(",")]
    if None in found:
        raise NoLine()
    return tuple(found)


def lines_in(told):
    """The text that a line tells, which has no line feeds."""
    return told.replace("|", "\n")


def named(kept, name):
    """What is kept under a name; refuses a name under which nothing is."""
    if name not in kept:
        raise NoName(name)
    return kept[name]


def others(kept, name):
    """What is kept under other names."""
    return {other: kept[other] for other in kept if other != name}


def put(desk, webs, books, plays):
    """Keeps all this from now on; what was kept stays known for undo, no play having done a tick."""
    desk._done.append((desk._webs, desk._books, desk._plays, None))
    desk._webs, desk._books, desk._plays = webs, books, plays
    return "ok"


def keep_web(desk, name, told):
    """Keeps a web; what is led of an elder one goes."""
    webs = {**desk._webs, name: read_web(lines_in(told))}
    return put(desk, webs, desk._books, others(desk._plays, name))


def keep_book(desk, name, told):
    """Keeps a book."""
    books = {**desk._books, name: read_book(lines_in(told))}
    return put(desk, desk._webs, books, desk._plays)


def drop_name(desk, name):
    """Drops the web of a name, with what is led of it, and the book."""
    if name not in desk._webs and name not in desk._books:
        raise NoName(name)
    return put(desk, others(desk._webs, name), others(desk._books, name), others(desk._plays, name))


def all_names(desk):
    """The names of the webs, then those of the books."""
    return " ".join([*sorted(desk._webs), *sorted(desk._books)]) or "none"


def fill_web(desk, name, told):
    """Leads a play of a web from a filling."""
    web = named(desk._webs, name)
    plays = {**desk._plays, name: Play(web, read_filling(web, lines_in(told)))}
    return put(desk, desk._webs, desk._books, plays)


def tick_with(desk, name, opening):
    """Does a tick of a play and tells the flows."""
    play = named(desk._plays, name)
    flows = play.tick(opening)
    desk._done.append((desk._webs, desk._books, desk._plays, play))
    return numbers_text(flows) or "none"


def tick_all(desk, name):
    """Does a tick with all pipes open."""
    return tick_with(desk, name, None)


def tick_some(desk, name, told):
    """Does a tick with the pipes open whose numbers are told."""
    return tick_with(desk, name, numbers_in(told))


def waters_now(desk, name):
    """The waters of a play."""
    return numbers_text(named(desk._plays, name).now())


def measures_ran(desk, name):
    """How many measures ran in a play."""
    return str(named(desk._plays, name).ran())


def first_of_sway(desk, name):
    """When what is led begins to sway, and whether water runs then."""
    play = named(desk._plays, name)
    first, one, other = sway(desk._webs[name], play.now())
    return f"{first} rest" if one == other else f"{first} runs"


def calm_or_breach(desk, name):
    """Whether a book is calm, else its breach."""
    found = breach(named(desk._books, name))
    if found is None:
        return "calm"
    kind, join, least = found
    return f"{kind} {join_text(join)} {fraction_text(least)}"


def comes_to_rest(desk, name):
    """Whether a web is calm."""
    return "yes" if calm_web(named(desk._webs, name)) else "no"


def take_back(desk):
    """Takes back the last line that was done; as lines are taken back in turn, its play has its tick last."""
    if not desk._done:
        raise NothingDone()
    desk._webs, desk._books, desk._plays, play = desk._done.pop()
    if play is not None:
        play.back(1)
    return "ok"


ALONE = {"names": all_names, "undo": take_back}
WITH_NAME = {"drop": drop_name, "tick": tick_all, "now": waters_now, "ran": measures_ran, "sway": first_of_sway,
             "calm": calm_or_breach, "stills": comes_to_rest}
WITH_MORE = {"web": keep_web, "book": keep_book, "fill": fill_web, "tick": tick_some}


class Desk:
    """Webs and books under names, and what is led of the webs."""

    def __init__(self):
        self._webs = {}
        self._books = {}
        self._plays = {}
        # For each line that can be taken back what was kept and led ahead of it, and the play that did a tick.
        self._done = []

    def tell(self, line):
        """Does a line and returns what it tells."""
        if not isinstance(line, str) or "\n" in line:
            raise NoLine()
        word, *more = line.split(" ", 2)
        if not more and word in ALONE:
            action = ALONE[word]
            return action(self)
        if not more or not is_name(more[0]):
            raise NoLine()
        if len(more) == 1 and word in WITH_NAME:
            action = WITH_NAME[word]
            return action(self, more[0])
        if len(more) == 2 and more[1] and word in WITH_MORE:
            action = WITH_MORE[word]
            return action(self, more[0], more[1])
        raise NoLine()

    def undoable(self):
        """How many lines can be taken back."""
        return len(self._done)
