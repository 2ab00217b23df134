"""Desk: rows of words and what is answered."""

import unittest

from common import ANY_VALUES, NO_STRINGS
from urlplaces.bases import parting, relative
from urlplaces.desk import Desk
from urlplaces.errors import BadQuery, BadUrl, NoBase, NoPlace, NoRow, NoText
from urlplaces.parsing import parse
from urlplaces.rules import alike, normal, steps

PLACE = "s://h/a/b"
URLS = ("s://h/a/b", "S://@H:/./^61?^7e#f", "http://h:080", "a", "/", "?", "#", "//h", "s:x", "1/2", "a&b=c", "(x)'!", "./1:2")
NO_URLS = ("1:2", "a b", "^", "^4", "a^zz", "//h:x", "//[", "<a>", '"a"', "a#b#c", "//h:99999", "a\n", "\n", ":", "{}", "a`")
NO_ROWS = (
    "", " ", "  ", "x", "go", "Go a", "GO a", " go a", "go  a", "go a ", "go a b", "go  ", " go ", "go\ta", "go\na", "goa",
    "back ", " back", "back 1", "backs", "Back", "back\n", "forward ", " forward", "forward 1", "forward a", "place ",
    " place", "place a", "Place", "here", "trail", "least", "least ", "least  a", "least a ", "least a b", " least a",
    "normal", "normal ", "normal  ", "normal a b", "normal  a", "alike", "alike ", "alike a", "alike a ", "alike  a",
    "alike a  b", "alike a b ", "alike a b c", "alike  ", "parting", "parting s:/", "parting s:/ ", "parting  s:/",
    "parting s:/ s:/ s:/", "parting  ", "steps", "steps ", "steps a b", "pairs", "pairs ", "pairs ? ?", "pairs  ?", "go a\n",
    "place\n", "\nplace", "s:/a", "none", "yes", "'place'", "undo", "tried", "go: a", "len")


class DeskCase(unittest.TestCase):
    def assert_no_row(self, desk, row):
        before = desk.say("place")
        with self.assertRaises(NoRow) as caught:
            desk.say(row)
        self.assertIs(caught.exception.row, row)
        self.assertEqual(desk.say("place"), before)

    def assert_answers(self, desk, rows):
        for row, answer in rows:
            with self.subTest(row):
                found = desk.say(row)
                self.assertIs(type(found), str)
                self.assertEqual(found, answer)


class Desks(DeskCase):
    def test_of_the_interface(self):
        desk = Desk("s://h/a/b")
        found = [desk.say("go ../c?d"), desk.say("least s://h/a/b"), desk.say("parting s://h s://h/"), desk.say("go ")]
        self.assertEqual(found, ["s://h/c?d", '"a/b"', "none", "s://h/c?d"])

    def test_where_it_begins(self):
        for text in ("s:/", "s://h", "S://@H/./^61?q#f"):
            self.assertEqual(Desk(text=text).say(row="place"), text)

    def test_no_text(self):
        for value in NO_STRINGS:
            with self.assertRaises(NoText) as caught:
                Desk(value)
            self.assertIs(caught.exception.value, value)

    def test_no_urls(self):
        for text, kind, place in (("1:2", "scheme", 0), ("s://h:80x/^4", "port", 8), ("a b", "sign", 1), ("s:/^4", "escape", 3)):
            with self.assertRaises(BadUrl) as caught:
                Desk(text)
            self.assertEqual((caught.exception.kind, caught.exception.place), (kind, place))

    def test_no_bases(self):
        for text in ("", "a", "/a", "//h/a", "s:", "s:a", "s:?q"):
            self.assertRaises(NoBase, Desk, text)

    def test_two_desks_share_nothing(self):
        one, other = Desk(PLACE), Desk(PLACE)
        one.say("go c")
        self.assertEqual((one.say("place"), other.say("place")), ("s://h/a/c", PLACE))
        self.assertRaises(NoPlace, other.say, "back")


class Tours(DeskCase):
    def test_go_back_and_forward(self):
        self.assert_answers(Desk(PLACE), (
            ("place", PLACE), ("go c", "s://h/a/c"), ("go ../d?q", "s://h/d?q"), ("place", "s://h/d?q"), ("back", "s://h/a/c"),
            ("place", "s://h/a/c"), ("back", PLACE), ("forward", "s://h/a/c"), ("forward", "s://h/d?q"), ("back", "s://h/a/c"),
            ("go #f", "s://h/a/c#f"), ("go ", "s://h/a/c"), ("back", "s://h/a/c#f"), ("go //k", "s://k"), ("go t:/./x", "t:/x")))

    def test_the_empty_reference_is_a_visit(self):
        desk = Desk("s:/a#f")
        self.assert_answers(desk, (("go ", "s:/a"), ("go ", "s:/a"), ("back", "s:/a"), ("back", "s:/a#f"), ("forward", "s:/a")))
        self.assert_answers(desk, (("forward", "s:/a"),))
        self.assertRaises(NoPlace, desk.say, "forward")

    def test_what_is_refused_changes_nothing(self):
        desk = Desk(PLACE)
        desk.say("go c")
        desk.say("go d")
        desk.say("back")
        for row in ("go s:x", "go t:", "go mailto:a@b"):
            self.assertRaises(NoBase, desk.say, row)
        for row in ("go 1:2", "go a b", "forward 1", "go a ", "go"):
            self.assert_no_row(desk, row)
        self.assert_answers(desk, (("forward", "s://h/a/d"), ("back", "s://h/a/c"), ("back", PLACE)))
        self.assertRaises(NoPlace, desk.say, "back")
        self.assert_answers(desk, (("place", PLACE), ("forward", "s://h/a/c"), ("forward", "s://h/a/d")))
        self.assertRaises(NoPlace, desk.say, "forward")
        self.assertEqual(desk.say("place"), "s://h/a/d")

    def test_what_is_asked_changes_nothing(self):
        desk = Desk(PLACE)
        desk.say("go c")
        desk.say("back")
        for row in ("place", "least s:/", "normal S:/", "alike a b", "parting s:/ s:/a", "steps A:", "pairs ?a"):
            desk.say(row)
        self.assertEqual((desk.say("place"), desk.say("forward")), (PLACE, "s://h/a/c"))


class Questions(DeskCase):
    def test_each_row(self):
        self.assert_answers(Desk(PLACE), (
            ("least s://h/a/b", '""'), ("least s://h/c", '"/c"'), ("least s://h/a/", '"."'), ("least s://h/a/x:y", '"./x:y"'),
            ("least t:/", '"t:/"'), ("least s://h/./a", "none"), ("least a", "none"), ("least ?", "none"),
            ("normal Http://@A^41:080/b/../^2e/c", "http://aa/c"), ("normal a", "a"), ("normal #^7e", "#~"),
            ("alike s:/x/.. s:/", "yes"), ("alike s:/x s:/", "no"), ("alike a a", "yes"), ("alike ? #", "no"),
            ("parting s:/a/^2e^2e/b s:/b", '".."'), ("parting s:/x/^2e^2e s:/", '"!"'), ("parting s:/a s:/b", '""'),
            ("parting s:/a s:/a", "none"), ("steps HT://^7e:/./a", "lower:0 lower:1 unescape:5 upper:7 port:8 dot:9"),
            ("steps A:", "lower:0"), ("steps a", "none"), ("steps //h", "slash:3"), ("pairs s:/?a=1&b", "2"), ("pairs s:/", "0"),
            ("pairs ?", "0"), ("pairs ?a", "1"), ("pairs ?&", "2"), ("pairs ?=&=&=", "3"), ("pairs a#b?c&d", "0")))

    def test_as_the_functions(self):
        desk = Desk(PLACE)
        for text in URLS:
            url = parse(text)
            self.assert_answers(desk, (
                (f"least {text}", quoted(relative(parse(PLACE), url))), (f"normal {text}", str(normal(url))),
                (f"steps {text}", " ".join(f"{rule}:{index}" for rule, index in steps(url)) or "none")))
            for other in URLS:
                self.assert_answers(desk, ((f"alike {text} {other}", "yes" if alike(url, parse(other)) else "no"),))
                if url.is_base and parse(other).is_base:
                    self.assert_answers(desk, ((f"parting {text} {other}", quoted(parting(url, parse(other)))),))
                else:
                    self.assertRaises(NoBase, desk.say, f"parting {text} {other}")

    def test_least_is_from_the_place(self):
        desk = Desk(PLACE)
        self.assert_answers(desk, (("go c/d", "s://h/a/c/d"), ("least s://h/a/b", '"../b"'), ("back", PLACE),
                                   ("least s://h/a/b", '""')))

    def test_errors_of_the_functions(self):
        desk = Desk(PLACE)
        for row, place in (("pairs ?a=^00", 2), ("pairs s:/?x&^41^25", 5)):
            with self.assertRaises(BadQuery) as caught:
                desk.say(row)
            self.assertEqual(caught.exception.place, place)
        self.assertRaises(NoBase, desk.say, "parting a s:/")
        self.assertRaises(NoBase, desk.say, "parting s:/ s:a")
        self.assertRaises(NoPlace, desk.say, "back")
        self.assertRaises(NoPlace, desk.say, "forward")
        self.assertEqual(desk.say("place"), PLACE)


def quoted(url):
    return "none" if url is None else f'"{url}"'


class NoRows(DeskCase):
    def test_no_rows(self):
        for row in NO_ROWS:
            with self.subTest(row):
                self.assert_no_row(Desk(PLACE), row)

    def test_any_values(self):
        desk = Desk(PLACE)
        for value in (*ANY_VALUES, *NO_STRINGS, ("go", "a"), ["place"], ("place",), {"place": ""}):
            self.assert_no_row(desk, value)

    def test_urls_that_are_none(self):
        desk = Desk(PLACE)
        for text in NO_URLS:
            for row in (f"go {text}", f"least {text}", f"normal {text}", f"alike {text} a", f"alike a {text}", f"steps {text}",
                        f"parting {text} s:/", f"parting s:/ {text}", f"parting a {text}", f"pairs {text}"):
                self.assert_no_row(desk, row)

    def test_spaces_too_many(self):
        desk = Desk(PLACE)
        for row in ("place", "back", "forward", "go a", "go ", "least a", "normal a", "alike a b", "parting s:/ s:/", "steps a",
                    "pairs a"):
            for wrong in {" " + row, row + " ", row.replace(" ", "  ", 1), "  ".join(row.rsplit(" ", 1))} - {row}:
                self.assert_no_row(desk, wrong)


class LongRows(DeskCase):
    def test_long_urls(self):
        desk = Desk(PLACE)
        long = "s://h/" + "a/" * 1500
        self.assert_answers(desk, ((f"go {long}b", long + "b"), (f"least {long}", '"."'), (f"normal {long}./^62", long + "b"),
                                   (f"alike {long} {long}.", "yes"), (f"parting {long} {long}b", '""'), ("back", PLACE),
                                   (f"steps S:/{'^41' * 1000}", "lower:0 " + " ".join(f"unescape:{3 + 3 * k}" for k in range(1000))),
                                   (f"pairs ?{'a=b&' * 1500}", "1501")))


if __name__ == "__main__":
    unittest.main()
