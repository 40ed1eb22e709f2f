"""The desk [14]."""

import re
import unittest

import oracle
from making import many_times, some_book, some_filling, some_opening, some_web
from odd import OddCase, answer, odd_things
from twotides.calm import breach
from twotides.desks import Desk
from twotides.errors import BadBook, BadText, BadWeb, NoFilling, NoLine, NoName, NoOpening, NothingDone
from twotides.patterns import calm_web
from twotides.reading import read_book, read_filling, read_web
from twotides.sways import sway
from twotides.texts import book_text, filling_text, web_text

TWO_TEXT = "widths 1 1|pipe 0 1 1|"
TIGHT_TEXT = "sort 1 2|kind 2 4 5 : 0-0|"
NAME = "[a-z]{1,8}"
NUMBER = "(?:0|[1-9][0-9]{0,8})"
FORM = re.compile(rf"names|undo|(?:web|book|fill) {NAME} [ -~\t]+|(?:drop|tick|now|ran|sway|calm|stills) {NAME}"
                  rf"|tick {NAME} {NUMBER}(?:,{NUMBER})*")


class Model:
    """A desk that keeps all lines that were done, and does them anew, from the first one on, for each answer."""

    def __init__(self):
        self.lines = []

    def kept(self):
        webs, books, plays = {}, {}, {}
        for line in self.lines:
            word, name, *more = line.split(" ", 2)
            text = "".join(more).replace("|", "\n")
            if word == "web":
                webs[name] = read_web(text)
                plays.pop(name, None)
            elif word == "book":
                books[name] = read_book(text)
            elif word == "drop":
                for lot in (webs, books, plays):
                    lot.pop(name, None)
            elif word == "fill":
                plays[name] = [read_filling(webs[name], text), 0, None]
            else:
                opening = tuple(map(int, more[0].split(","))) if more else None
                ran = oracle.flows(webs[name], plays[name][0], opening)
                plays[name] = [oracle.tick(webs[name], plays[name][0], opening),
                               plays[name][1] + sum(map(abs, ran)), ran]
        return webs, books, plays

    def tell(self, line):
        if type(line) is not str or not FORM.fullmatch(line):
            raise NoLine()
        word, name, more = (*line.split(" ", 2), "", "")[:3]
        webs, books, plays = self.kept()
        if word == "undo":
            if not self.lines:
                raise NothingDone()
            self.lines.pop()
            return "ok"
        if word == "names":
            return " ".join(sorted(webs) + sorted(books)) or "none"
        text = more.replace("|", "\n")
        if word in ("web", "book"):
            {"web": read_web, "book": read_book}[word](text)
        lots = {"drop": {**webs, **books}, "fill": webs, "stills": webs, "calm": books}.get(word, plays)
        if word not in ("web", "book") and name not in lots:
            raise NoName(name)
        if word == "fill":
            read_filling(webs[name], text)
        if word == "tick" and more and not oracle.right_opening(webs[name], tuple(map(int, more.split(",")))):
            raise NoOpening()
        if word in ("web", "book", "drop", "fill", "tick"):
            self.lines.append(line)
            return " ".join(map(str, self.kept()[2][name][2])) or "none" if word == "tick" else "ok"
        return self.told(word, lots[name], webs.get(name))

    def told(self, word, found, web):
        if word == "calm":
            told = breach(found)
            if told is None:
                return "calm"
            kind, (i, j), (top, bottom) = told
            return f"{kind} {i}-{j} {top}" + (f"/{bottom}" if bottom > 1 else "")
        if word == "stills":
            return "yes" if calm_web(found) else "no"
        if word == "sway":
            first, one, other = sway(web, found[0])
            return f"{first} {'rest' if one == other else 'runs'}"
        return " ".join(map(str, found[0])) if word == "now" else str(found[1])


def some_line(rng):
    """A line, mostly of a right form, with few names."""
    name = rng.choice(("a", "b", "cd"))
    web = some_web(rng, 3, (0, 1, 2), (((1, 1),), ((1, 2), (3, 2))), 3)
    way = rng.randrange(14)
    if way == 0:
        return f"web {name} " + web_text(web).replace("\n", "|")
    if way == 1:
        return f"book {name} " + book_text(some_book(rng)).replace("\n", "|")
    if way in (2, 3):
        return f"fill {name} " + filling_text(some_filling(rng, web, 9)).replace("\n", "|")
    if way in (4, 5):
        opening = some_opening(rng, web)
        return f"tick {name}" + (" " + ",".join(map(str, opening)) if opening else "")
    if way == 6:
        return f"fill {name} 5 0|"
    if way == 7:
        return f"web {name} {TWO_TEXT}"
    return rng.choice((f"now {name}", f"ran {name}", f"sway {name}", f"calm {name}", f"stills {name}", "names", "undo",
                       "undo", f"tick {name}", f"tick {name} 0", f"drop {name}"))


class DeskCase(OddCase):
    def desk(self, *lines):
        desk = Desk()
        for line in lines:
            desk.tell(line)
        return desk

    def tells(self, desk, *pairs):
        for line, due in pairs:
            self.assertEqual(desk.tell(line), due, line)


class LinesTest(DeskCase):
    def test_a_play(self):
        desk = Desk()
        self.tells(desk, (f"web a {TWO_TEXT}", "ok"), ("fill a 5 0|", "ok"), ("now a", "5 0"), ("ran a", "0"),
                   ("sway a", "2 runs"), ("tick a", "1"), ("tick a 0", "1"), ("tick a", "1"), ("now a", "2 3"),
                   ("ran a", "3"), ("sway a", "0 runs"), ("tick a", "-1"), ("stills a", "no"), ("fill a 4 -2|", "ok"),
                   ("sway a", "3 rest"), ("now a", "4 -2"), ("ran a", "0"))
        self.assertEqual(desk.undoable(), 7)

    def test_several_pipes(self):
        desk = self.desk("web a widths 1 0 2|pipe 0 1 1|pipe 0 2 1 2 3|", "fill a 9 0 0|")
        self.tells(desk, ("tick a 1", "0 3"), ("tick a 0", "1 0"), ("tick a 0,1", "1 3"), ("now a", "1 0 6"),
                   ("ran a", "8"),
                   ("tick a", "1 -2"), ("now a", "2 0 4"))

    def test_without_pipes(self):
        desk = self.desk("web a widths 3 0|", "fill a -7 0|")
        self.tells(desk, ("tick a", "none"), ("now a", "-7 0"), ("ran a", "0"), ("sway a", "0 rest"),
                   ("stills a", "yes"))

    def test_books(self):
        desk = self.desk(f"book a {TIGHT_TEXT}", "book b sort 1 2|kind 3 5 7 : 0-0|", "book c sort 3 1|",
                         "book d sort 12 6|sort 2 3|kind 9 : 0-0|kind 1/2 : 0-0 0-1|")
        self.tells(desk, ("calm a", "0 0-0 2"), ("calm b", "calm"), ("calm c", "calm"), ("calm d", "1 0-0 1/2"))

    def test_names(self):
        desk = Desk()
        self.tells(desk, ("names", "none"), (f"web b {TWO_TEXT}", "ok"), ("names", "b"), (f"book a {TIGHT_TEXT}", "ok"),
                   ("names", "b a"), (f"web abcdefgh {TWO_TEXT}", "ok"), (f"book b {TIGHT_TEXT}", "ok"),
                   ("names", "abcdefgh b a b"), ("drop b", "ok"), ("names", "abcdefgh a"), ("drop abcdefgh", "ok"),
                   ("names", "a"), ("drop a", "ok"), ("names", "none"))

    def test_stills_of_webs_beyond_the_limits(self):
        desk = self.desk("web a widths 12|", "web b widths 9 8|", "web c widths 8 8|",
                         "web d widths" + " 1" * 9 + "|" + "".join(f"pipe {k} {k + 1} 2|" for k in range(8)),
                         "web e widths" + " 1" * 8 + "|" + "".join(f"pipe {k} {k + 1} 3|" for k in range(7)))
        self.tells(desk, ("stills a", "yes"), ("stills c", "yes"), ("stills e", "yes"))
        self.refuses("TooMany", {"most": 64}, desk.tell, "stills b")
        self.refuses("TooMany", {"most": 5000}, desk.tell, "stills d")

    def test_a_late_sway(self):
        desk = self.desk(f"web a {TWO_TEXT}", "fill a 40001 0|", "web b widths 0 1|pipe 0 1 1|", "fill b 0 999999999|")
        self.tells(desk, ("sway a", "20000 runs"), ("fill a 40002 0|", "ok"))
        self.refuses("TooMany", {"most": 20000}, desk.tell, "sway a")
        self.refuses("TooMany", {"most": 20000}, desk.tell, "sway b")
        self.tells(desk, ("tick a", "1"), ("sway a", "20000 rest"), ("tick b", "-1"), ("now b", "0 999999998"))
        self.assertEqual(desk.undoable(), 7)

    def test_a_web_kept_anew(self):
        desk = self.desk(f"web a {TWO_TEXT}", "fill a 5 0|", "tick a")
        self.tells(desk, ("now a", "4 1"), (f"web a {TWO_TEXT}", "ok"))
        for line in ("now a", "ran a", "sway a", "tick a", "tick a 0", "tick a 7"):
            self.refuses("NoName", {"name": "a"}, desk.tell, line)
        self.tells(desk, ("undo", "ok"), ("now a", "4 1"), ("ran a", "1"), (f"book a {TIGHT_TEXT}", "ok"),
                   ("now a", "4 1"),
                   ("tick a", "1"), (f"web b {TWO_TEXT}", "ok"), ("now a", "3 2"))

    def test_drop(self):
        desk = self.desk(f"web a {TWO_TEXT}", f"book a {TIGHT_TEXT}", "fill a 5 0|", "tick a", f"book b {TIGHT_TEXT}")
        self.tells(desk, ("drop a", "ok"), ("names", "b"))
        for line in ("now a", "calm a", "stills a", "fill a 5 0|", "drop a", "tick a"):
            self.refuses("NoName", {"name": "a"}, desk.tell, line)
        self.tells(desk, ("undo", "ok"), ("names", "a a b"), ("now a", "4 1"), ("drop b", "ok"), ("names", "a a"),
                   ("undo", "ok"), ("undo", "ok"), ("names", "a a"), ("now a", "4 1"))


class UndoTest(DeskCase):
    def test_each_kind_of_line(self):
        lines = (f"web a {TWO_TEXT}", "fill a 5 0|", "tick a", "tick a 0", f"book a {TIGHT_TEXT}", "fill a 9 0|",
                 "tick a",
                 "web a widths 1|", "fill a 3|", "tick a", "book a sort 1 1|", "drop a", f"web a {TWO_TEXT}")
        asked = ("names", "now a", "ran a", "sway a", "calm a", "stills a")
        desk, seen = Desk(), []
        for number, line in enumerate(lines):
            seen.append([answer(desk.tell, ask) for ask in asked])
            self.assertEqual(desk.undoable(), number)
            desk.tell(line)
        for number in reversed(range(len(lines))):
            self.tells(desk, ("undo", "ok"))
            self.assertEqual(desk.undoable(), number)
            self.assertEqual([answer(desk.tell, ask) for ask in asked], seen[number], lines[number])
        for _ in range(2):
            self.refuses("NothingDone", {}, desk.tell, "undo")
        self.assertEqual(desk.undoable(), 0)

    def test_undo_is_not_taken_back(self):
        desk = self.desk(f"web a {TWO_TEXT}", "fill a 5 0|", "tick a", "undo", "tick a 0", "tick a", "undo")
        self.tells(desk, ("now a", "4 1"), ("undo", "ok"), ("now a", "5 0"), ("undo", "ok"))
        self.refuses("NoName", {"name": "a"}, desk.tell, "now a")
        self.tells(desk, ("fill a 7 0|", "ok"), ("now a", "7 0"))

    def test_what_only_asks_is_not_taken_back(self):
        desk = self.desk(f"web a {TWO_TEXT}", f"book b {TIGHT_TEXT}", "fill a 5 0|")
        for line in ("names", "now a", "ran a", "sway a", "calm b", "stills a"):
            desk.tell(line)
            self.assertEqual(desk.undoable(), 3)
        self.tells(desk, ("undo", "ok"), ("names", "a b"))

    def test_many_ticks(self):
        desk = self.desk(f"web a {TWO_TEXT}", "fill a 5000 0|", *["tick a"] * 2000)
        self.tells(desk, ("now a", "3000 2000"), ("ran a", "2000"), *[("undo", "ok")] * 1500, ("now a", "4500 500"),
                   ("ran a", "500"))

    def test_a_refused_line_changes_nothing(self):
        desk = self.desk(f"web a {TWO_TEXT}", f"book b {TIGHT_TEXT}", "fill a 5 0|", "tick a")
        asked = ("names", "now a", "ran a", "sway a", "calm b", "stills a")
        seen = [desk.tell(ask) for ask in asked]
        for line in ("web a widths 13|", "web a x", "web c widths 1", "book b sort 1 7|", "book b", "fill a 1|",
                     "fill a 1 1",
                     "fill b 1|", "tick a 1", "tick a 0,0", "tick a 0,", "tick b", "drop c", "now c", None, "undo a",
                     "names ",
                     "web A widths 1|", "calm a", "stills b", "fill a 1 1|1 1|", "undo "):
            self.assertNotEqual(answer(desk.tell, line)[0], "returned", line)
            self.assertEqual([desk.tell(ask) for ask in asked], seen)
            self.assertEqual(desk.undoable(), 4)
        self.tells(desk, ("undo", "ok"), ("now a", "5 0"))


class ErrorsTest(DeskCase):
    def test_no_line(self):
        desk = self.desk(f"web a {TWO_TEXT}", f"book a {TIGHT_TEXT}", "fill a 5 0|")
        for line in ("", " ", "x", "undo ", " undo", "undo a", "names a", "Names", "now", "now ", "now  a", " now a",
                     "now a ",
                     "now a b", "now A", "now a1", "now abcdefghi", "now a\n", "now\ta", "now a\t", "web", "web a",
                     "web a ",
                     "web  widths 1|", "web A widths 1|", "web abcdefghi widths 1|", "book a", "book a ", "fill a",
                     "fill a ",
                     "web a widths 1\n", "web a widths 1|\npipe", "tick", "tick ", "tick a ", "tick a  0", "tick a 0 ",
                     "tick a 0,", "tick a ,0", "tick a 0,,1", "tick a 00", "tick a -1", "tick a 0 1", "tick a 0, 1",
                     "tick a 1234567890", "tick a +0", "tick a all", "tick a none", "tick a 0,x", "tick b x",
                     "stills a 0",
                     "calm a 0", "sway a 0", "ran a 0", "drop a 0", "drop", "calm", "ticks a", "undo\n", "names\n",
                     "drop  a",
                     "web\ta widths 1|", "web a\twidths 1|", "now -", "tick a 0|", "now a|"):
            self.refuses("NoLine", {}, desk.tell, line)
        self.assertEqual(desk.undoable(), 3)

    def test_things_that_are_no_strings(self):
        desk = Desk()
        for odd in odd_things():
            self.refuses("NoLine", {}, desk.tell, odd)
        for odd in (b"names", ["names"], ("names",), {"names": 0}, Desk()):
            self.refuses("NoLine", {}, desk.tell, odd)

    def test_texts(self):
        desk = self.desk(f"web a {TWO_TEXT}")
        for line, number in (("web a x", 1), ("web a widths 1", 1), ("web a  widths 1|", 1), ("web a |", 1),
                             ("web a ||", 1),
                             ("web a widths 1||", 2), ("web a widths 1|x", 2), ("web a widths 1 1|pipe 0 1|", 2),
                             ("web a  ", 1),
                             ("book a x", 1), ("book a sort 1 1", 1), ("book a kind 1 : 0-0|sort 1 1|", 2),
                             ("book a \t", 1),
                             ("fill a 5 0", 1), ("fill a 5 0||", 2), ("fill a 5  0|", 1), ("fill a |", 1),
                             ("fill a x", 1),
                             ("web a widths\t1|", 1), ("fill a 5 -0|", 1), ("fill a 5 0|\t", 2)):
            self.refuses("BadText", {"line": number}, desk.tell, line)
        self.refuses("BadWeb", {"part": "widths"}, desk.tell, "web a widths 13|")
        self.refuses("BadWeb", {"part": 0}, desk.tell, "web a widths 1 1|pipe 1 0 1|")
        self.refuses("BadBook", {"part": "sorts"}, desk.tell, "book a sort 1 7|")
        self.refuses("BadBook", {"part": 1}, desk.tell, "book a sort 1 1|kind 1 : 0-0|kind 1 : 0-1|")
        self.refuses("NoFilling", {}, desk.tell, "fill a 5|")
        self.refuses("NoFilling", {}, desk.tell, "fill a 5 0 0|")
        self.refuses("NoName", {"name": "b"}, desk.tell, "fill b x")

    def test_names_under_which_nothing_is_kept(self):
        desk = self.desk(f"web w {TWO_TEXT}", f"book b {TIGHT_TEXT}", f"web led {TWO_TEXT}", "fill led 5 0|")
        for word, fine in (("drop", ("w", "b", "led")), ("tick", ("led",)), ("now", ("led",)), ("ran", ("led",)),
                           ("sway", ("led",)), ("calm", ("b",)), ("stills", ("w", "led"))):
            for name in ("w", "b", "led", "none", "names"):
                told = answer(desk.tell, f"{word} {name}")
                if name in fine:
                    self.assertEqual(told[0], "returned")
                    if word in ("drop", "tick"):
                        desk.tell("undo")
                else:
                    self.assertEqual(told, ("NoName", {"name": name}))
        for name in ("w", "b", "none"):
            self.refuses("NoName", {"name": name}, desk.tell, f"tick {name} 9")
        for name in ("b", "none"):
            self.refuses("NoName", {"name": name}, desk.tell, f"fill {name} 1")

    def test_openings(self):
        desk = self.desk("web a widths 1 1|pipe 0 1 1|pipe 0 1 2|", "fill a 5 0|", "web b widths 1|", "fill b 1|")
        for line in ("tick a 2", "tick a 0,0", "tick a 1,0", "tick a 0,1,2", "tick a 999999999", "tick b 0"):
            self.refuses("NoOpening", {}, desk.tell, line)
        self.tells(desk, ("tick a 0,1", "1 1"))


class WholeDeskTest(DeskCase):
    def test_against_the_words(self):
        words, done = {}, 0
        for rng in many_times(150):
            desk, model = Desk(), Model()
            for _ in range(40):
                line = some_line(rng)
                told = answer(desk.tell, line)
                self.assertEqual(told, answer(model.tell, line), (line, model.lines))
                self.assertEqual(desk.undoable(), len(model.lines))
                words.setdefault(line.split()[0], {}).setdefault(told[0], True)
                done += told[0] == "returned"
        self.assertGreater(done, 2000)
        for word in ("drop", "fill", "tick", "now", "ran", "sway", "calm", "stills"):
            self.assertGreater(len(words[word]), 1, word)

    def test_two_desks(self):
        one, other = self.desk(f"web a {TWO_TEXT}", "fill a 5 0|"), self.desk(f"web a {TWO_TEXT}", "fill a 9 0|")
        self.tells(one, ("tick a", "1"), ("drop a", "ok"))
        self.tells(other, ("now a", "9 0"), ("names", "a"), ("tick a", "1"), ("undo", "ok"), ("undo", "ok"))
        self.assertEqual((one.undoable(), other.undoable()), (4, 1))
        self.tells(one, ("undo", "ok"), ("now a", "4 1"))
        self.assertEqual((Desk().undoable(), Desk().tell("names")), (0, "none"))
        self.assertFalse(Desk() == None or Desk() == 0 or Desk() == "none")  # noqa: E711

    def test_fields(self):
        for error, fields in ((NoLine(), {}), (NothingDone(), {}), (NoName("a"), {"name": "a"}),
                              (BadText(3), {"line": 3}),
                              (BadWeb(0), {"part": 0}), (BadBook(0), {"part": 0}), (NoFilling(), {}),
                              (NoOpening(), {})):
            self.assertEqual(vars(error), fields)


if __name__ == "__main__":
    unittest.main()
