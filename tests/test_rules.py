"""RULES, steps, after, normal, alike and paper [11, 12]."""

import itertools
import random
import unittest

import second_reading
import second_steps
from common import all_texts, parts_of
from urlplaces.errors import BadStep
from urlplaces.parsing import is_url, parse
from urlplaces.parts import Url
from urlplaces.rules import RULES, after, alike, normal, paper, steps

B = "http://a.b/c/d;p?q"
NO_STEPS = (
    None, True, False, 0, 5, -10 ** 59, 10 ** 59, "", "lower", "lower:0", (), ("lower",), (0,), ("lower", 0, 0),
    ("lower", None), ("lower", "0"), ("lower", False), ("lower", True), ("lower", (0,)), ("lower", [0]), ("Lower", 0),
    ("", 0), (" lower", 0), ("lower ", 0), (0, "lower"), (None, 0), (True, 0), (("lower",), 0), (["lower"], 0), ([], 0),
    ({}, 0), (0, 0), ["lower", 0], [("lower", 0)], (("lower", 0),), {"lower": 0}, {}, [], ("lower", -1),
    ("lower", -10 ** 59), ("lower", 10 ** 59), ("lowe", 0), ("walk", 0), (parse("lower"), 0), ("lower", parse("s:")),
    parse(""), parse("AB:"), (parse("AB:"), parse("AB:")), ([("lower", 0)], []))

# Texts with the steps that are possible on them, and the texts behind these.
ROWS = {
    "": {},
    "s:a/b?c#d": {},
    # lower
    "Ab-C.D+:x": {("lower", 0): "ab-C.D+:x", ("lower", 3): "Ab-c.D+:x", ("lower", 5): "Ab-C.d+:x"},
    "//A^C3^4aB": {("lower", 2): "//a^C3^4aB", ("unescape", 6): "//A^C3JB", ("upper", 8): "//A^C3^4AB",
                   ("lower", 9): "//A^C3^4ab", ("slash", 10): "//A^C3^4aB/"},
    "//[A:Bc]/": {("lower", 3): "//[a:Bc]/", ("lower", 5): "//[A:bc]/"},
    "//U@h/P?Q#F": {},
    "s:P/Q": {},
    "^C3A": {},
    # upper
    "//^c3@^3f:1/^e2?^aB#^Fd": {
        ("upper", 3): "//^C3@^3f:1/^e2?^aB#^Fd", ("upper", 8): "//^c3@^3F:1/^e2?^aB#^Fd",
        ("upper", 13): "//^c3@^3f:1/^E2?^aB#^Fd", ("upper", 17): "//^c3@^3f:1/^e2?^AB#^Fd",
        ("upper", 22): "//^c3@^3f:1/^e2?^aB#^FD"},
    "^ff": {("upper", 1): "^Ff", ("upper", 2): "^fF"},
    "abcdef^00a": {},
    "//[f]/": {},
    # unescape
    "^7E^61^2d^2F": {("unescape", 0): "~^61^2d^2F", ("unescape", 3): "^7Ea^2d^2F", ("unescape", 6): "^7E^61-^2F",
                     ("upper", 8): "^7E^61^2D^2F"},
    "^21^3A^40^5E^60^7B^00^25^2B": {},
    "^5E41": {},
    # user
    "//@h/": {("user", 2): "//h/"},
    "s://@/": {("user", 4): "s:///"},
    "//:@h/": {},
    "//u@h/": {},
    "//h/@": {},
    "s:@": {},
    # port
    "//h:/": {("port", 3): "//h/"},
    "//:/": {("port", 2): "///"},
    "//h:0/": {},
    "//h:00/": {("port", 4): "//h:0/"},
    "//h:00080/": {("port", 4): "//h:0080/"},
    "//h:80/": {},
    "http://h:80/": {("port", 8): "http://h/"},
    "http://h:080/": {("port", 9): "http://h:80/"},
    "http://h:8080/": {},
    "http://h:443/": {},
    "http://h:8/": {},
    "https://h:443/": {("port", 9): "https://h/"},
    "https://h:80/": {},
    "ftp://h:21/": {("port", 7): "ftp://h/"},
    "ftp://h:80/": {},
    "httpx://h:80/": {},
    "Http://h:80/": {("lower", 0): "http://h:80/"},
    "http://u:80@h/": {},
    "http:/h:80/": {},
    # slash
    "//": {("slash", 2): "///"},
    "s://h": {("slash", 5): "s://h/"},
    "//h?a/b": {("slash", 3): "//h/?a/b"},
    "//h#": {("slash", 3): "//h/#"},
    "s://h:8?#": {("slash", 7): "s://h:8/?#"},
    "s:": {},
    "s:?": {},
    "#": {},
    "//h//": {},
    # dot
    "/.": {("dot", 0): "/"},
    "/..": {("dot", 0): "/"},
    "/./": {("dot", 0): "/"},
    "/../": {("dot", 0): "/"},
    "s:/a/./b": {("dot", 4): "s:/a/b"},
    "s:/a/../b": {("dot", 4): "s:/b"},
    "s:/a/.": {("dot", 4): "s:/a/"},
    "s:/a/..": {("dot", 4): "s:/"},
    "s:/a/b/..": {("dot", 6): "s:/a/"},
    "//h/a/b/../c?/./#/../": {("dot", 7): "//h/a/c?/./#/../"},
    "/a/./../b": {("dot", 2): "/a/../b"},
    "/./../b": {("dot", 0): "/../b"},
    "/../../b": {("dot", 0): "/../b"},
    "/.././b": {("dot", 0): "/./b"},
    "/^2e/..": {("unescape", 1): "/./..", ("upper", 3): "/^2E/.."},
    "/.^2E/.": {("unescape", 2): "/../."},
    "/^2E^2E/../a": {("unescape", 1): "/.^2E/../a", ("unescape", 4): "/^2E./../a"},
    "/^61/..": {("unescape", 1): "/a/..", ("dot", 4): "/"},
    "/^2E^2E^2E/..": {("unescape", 1): "/.^2E^2E/..", ("unescape", 4): "/^2E.^2E/..", ("unescape", 7): "/^2E^2E./..",
                      ("dot", 10): "/"},
    "/...": {},
    "/.a/..b": {},
    "./a": {},
    "a/../b": {},
    "s:..": {},
    "?/./": {},
    # dot in front of "//"
    "/.//a": {},
    "/.//": {},
    "s:/.///": {},
    "//h/.//a": {("dot", 3): "//h//a"},
    "/..//a": {("dot", 0): "/.//a"},
    "/a/..//b": {("dot", 2): "/.//b"},
    "/././/a": {("dot", 0): "/.//a"},
    "/.//../a": {("dot", 3): "/./a"},
    "/.//.": {("dot", 3): "/.//"},
    "/.//..": {("dot", 3): "/./"},
    "//h//..": {("dot", 4): "//h/"},
    "//h//../..": {("dot", 4): "//h/.."},
    "//h///..": {("dot", 5): "//h//"},
    "/a//../b": {("dot", 3): "/a/b"},
    "/a/./": {("dot", 2): "/a/"},
}


def texts_of(found):
    return [str(url) for url in found]


def random_texts(many, seed):
    """Texts of URLs with much to do in each part."""
    chance = random.Random(seed)
    schemes = ("http:", "HTTP:", "S:", "", "ftp:", "https:", "x:")
    pieces = ("/", "/", ".", "..", "^2e", "a", "^ff", "^7E")
    authorities = ["".join(row) for row in itertools.product(
        ("//",), ("", "@", "U@", "^41@", "^c3@"), ("", "h", "H^4a", "^C3A", "[A:b]", "^2e"),
        ("", ":", ":0", ":00", ":80", ":080", ":443", ":21", ":0021"))]
    found = []
    while len(found) < many:
        text = chance.choice(schemes) + (chance.choice(authorities) if chance.random() < 0.7 else "")
        text += "".join([chance.choice(pieces) for _ in range(chance.randrange(7))])
        text += chance.choice(("", "?", "?A^7e", "?^c3")) + chance.choice(("", "#", "#A^7e", "#^c3"))
        if is_url(text):
            found.append(text)
    return found


def short_texts():
    """Texts of URLs with all short paths of slashes and dots, and of escapes of these."""
    for beginning in ("", "s:", "//h", "s://h"):
        for path in all_texts("/.a", 5):
            yield beginning + path
        for row in itertools.product(("/", ".", "^2e", "^2E", "a", "^c3", "/..", "/."), repeat=4):
            yield beginning + "".join(row)


class Rules(unittest.TestCase):
    def test_of_the_interface(self):
        self.assertEqual(RULES, ("lower", "upper", "unescape", "user", "port", "slash", "dot"))
        self.assertIs(type(RULES), tuple)


class Steps(unittest.TestCase):
    def test_of_the_interface(self):
        wanted = [("lower", 0), ("lower", 1), ("unescape", 5), ("upper", 7), ("port", 8), ("dot", 9)]
        self.assertEqual(steps(parse("HT://^7e:/./a")), wanted)

    def test_each_rule_where_it_is_possible_and_where_it_is_not(self):
        for text, wanted in ROWS.items():
            with self.subTest(text):
                self.assertEqual(steps(parse(text)), list(wanted))

    def test_every_letter(self):
        text = "abcdefghijklmnopqrstuvwxyz"
        for at, letter in enumerate(text):
            changed = f"{text[:at]}{letter.upper()}{text[at + 1:]}"
            self.assertEqual(steps(parse(f"{changed}:{changed}")), [("lower", at)])
            self.assertEqual(steps(parse(f"//{changed}/{changed}")), [("lower", at + 2)])
        for letter in "abcdef":
            self.assertEqual(steps(parse(f"^{letter}0^0{letter}")), [("upper", 1), ("upper", 5)])
            self.assertEqual(steps(parse(f"^{letter.upper()}0^0{letter.upper()}")), [])

    def test_every_octet(self):
        for number in range(256):
            wanted = [("unescape", 1)] if second_steps.PLAIN_SIGN.fullmatch(chr(number)) else []
            self.assertEqual(steps(parse(f"/^{number:02X}")), wanted)

    def test_kinds(self):
        found = steps(url=parse("S://@H:?^c3"))
        self.assertIs(type(found), list)
        for step in found:
            self.assertEqual([type(each) for each in (step, *step)], [tuple, str, int])

    def test_each_list_is_new(self):
        url = parse("AB:")
        steps(url).append(("lower", 5))
        self.assertEqual(steps(url), [("lower", 0), ("lower", 1)])

    def test_all_rules_in_order(self):
        text = "HTTP://@^C3Ha^c3:080/^7e/.././?^aa#^41"
        found = steps(parse(text))
        self.assertEqual(found, list(second_steps.all_steps(text)))
        self.assertEqual(found, sorted(found, key=lambda step: (step[1], RULES.index(step[0]))))

    def test_texts_of_all_shapes_against_the_second_reading(self):
        for text in [*filter(is_url, short_texts()), *random_texts(2000, 1)]:
            self.assertEqual(steps(parse(text)), list(second_steps.all_steps(text)), text)


class After(unittest.TestCase):
    def assert_no_step(self, text, value):
        with self.subTest((text, value)):
            url = parse(text)
            with self.assertRaises(BadStep) as caught:
                after(url, value)
            self.assertIsNone(caught.exception.place)
            self.assertEqual(str(url), text)

    def test_where_each_step_leads(self):
        for text, wanted in ROWS.items():
            for step, behind in wanted.items():
                with self.subTest((text, step)):
                    url = parse(text)
                    found = after(url, step)
                    self.assertIs(type(found), Url)
                    self.assertEqual(str(found), behind)
                    self.assertTrue(found == parse(behind))
                    self.assertEqual(str(url), text)

    def test_every_other_rule_and_index(self):
        for text in (*ROWS, "HTTP://@^C3Ha^c3:080/^7e/.././?^aa#^41"):
            wanted = second_steps.all_steps(text)
            for step in itertools.product((*RULES, "x"), range(-len(text) - 2, len(text) + 3)):
                if step not in wanted:
                    self.assert_no_step(text, step)

    def test_any_values(self):
        for value in NO_STEPS:
            for text in (B, "", "s://h", "/./"):
                self.assert_no_step(text, value)

    def test_any_values_where_the_first_two_indices_are_possible(self):
        for value in NO_STEPS:
            self.assert_no_step("AB:", value)

    def test_arguments_by_name(self):
        self.assertEqual(str(after(url=parse("A:"), step=("lower", 0))), "a:")

    def test_parts_are_as_if_the_text_was_parsed(self):
        for text in [*filter(is_url, short_texts()), *random_texts(2000, 2)]:
            for step, behind in second_steps.all_steps(text).items():
                found = after(parse(text), step)
                self.assertEqual((str(found), parts_of(found)), (behind, second_reading.read(behind)), (text, step))


class Normal(unittest.TestCase):
    def test_of_the_interface(self):
        self.assertEqual(str(normal(parse("Http://@A^41:080/b/../^2e/c"))), "http://aa/c")

    def test_ordinary_urls(self):
        rows = {
            "": "", B: B, "HTTP://A.B:80/c": "http://a.b/c", "s://h": "s://h/", "s:/": "s:/", "s:": "s:",
            "X://U@H/P?Q#F": "x://U@h/P?Q#F", "//@": "///", "//:": "///", "//h:000": "//h:0/", "//h:0": "//h:0/",
            "https://h:0443?": "https://h/?", "ftp://h:21#": "ftp://h/#", "FTP://h:0021": "ftp://h/",
            "S://^C3^c3A^41^61": "s://^C3^C3aaa/", "//[A:F]": "//[a:f]/", "a/../^2e": "a/../.",
            "^2e^2e/^7E?^7E#^7E": "../~?~#~", "s:a/^2e^2e": "s:a/..", "/^2e^2e//x": "/.//x", "/a/..//b": "/.//b",
            "s:/.//../b": "s:/b", "//h/.//../b": "//h/b", "s:/^2e//b": "s:/.//b", "s:/.//^2e^2e/^2e^2e/x": "s:/x",
            "//^3a^2f@^40": "//^3A^2F@^40/", "s://h/a^2fb/..": "s://h/", "?": "?", "#": "#", "?#": "?#",
            "/..": "/", "/.": "/", "/a/.": "/a/", "//h/..//..//a": "//h//a", "//h//..//..//..//a": "//h//a",
        }
        for text, wanted in rows.items():
            with self.subTest(text):
                url = parse(text)
                self.assertEqual(str(normal(url)), wanted)
                self.assertTrue(normal(url) == parse(wanted))
                self.assertEqual(str(url), text)
        self.assertEqual(str(normal(url=parse("S:"))), "s:")

    def test_steps_that_are_taken_in_all_ways_end_there(self):
        for text in [*ROWS, *filter(is_url, short_texts()), *random_texts(500, 3)]:
            self.assertEqual(second_steps.ends(text), {str(normal(parse(text)))}, text)

    def test_steps_of_the_program_that_are_taken_by_chance_end_there(self):
        chance = random.Random(4)
        for text in random_texts(500, 5):
            url = parse(text)
            possible = steps(url)
            while possible:
                url = after(url, chance.choice(possible))
                possible = steps(url)
            self.assertTrue(url == normal(parse(text)), text)

    def test_normal_forms_stay(self):
        for text in random_texts(500, 6):
            url = normal(parse(text))
            self.assertEqual((steps(url), str(normal(url))), ([], str(url)))


class Alike(unittest.TestCase):
    def test_of_the_interface(self):
        self.assertIs(alike(parse("s:/x/.."), parse("s:/")), True)

    def test_alike_urls(self):
        for one, other in (("", ""), (B, B), (B, "HTTP://@A.B:080/c/./d;p?^71"), ("s://h", "S://H:/"), ("^41", "A"),
                           ("/a/..//b", "/.//b"), ("s:/^2e^2e//a", "s:/.//a"), ("^c3", "^C3"), ("#^7e", "#~")):
            with self.subTest((one, other)):
                self.assertIs(alike(parse(one), parse(other)), True)
                self.assertIs(alike(one=parse(other), other=parse(one)), True)

    def test_urls_that_are_not_alike(self):
        for one, other in (("", "?"), ("", "#"), ("?", "?#"), ("//u@h", "//h"), ("//h", "/"), ("s:", "s:/"), ("a", "A"),
                           ("s:a", "S:A"), ("//u@h", "//U@h"), ("?q", "?Q"), ("^2F", "/"), ("^21", "!"), ("s:", "t:"),
                           ("//h:0", "//h"), ("http://h:443", "http://h"), ("//h:80", "//h"), ("a/..", ""),
                           ("s:a/..", "s:"), ("//h//", "//h/"), ("/.//", "/"), ("//h//a", "//h/a"), ("/a", "/a/")):
            with self.subTest((one, other)):
                self.assertIs(alike(parse(one), parse(other)), False)
                self.assertIs(alike(parse(other), parse(one)), False)

    def test_against_the_second_reading(self):
        texts = random_texts(150, 7) + ["s:/", "s:/.", "s:/^2e", "s:/a/..", "//h", "//H/", "//@h", "//h:"]
        ends = {text: second_steps.normal(text) for text in texts}
        for one, other in itertools.product(texts, repeat=2):
            self.assertIs(alike(parse(one), parse(other)), ends[one] == ends[other])


class Paper(unittest.TestCase):
    def assert_holds(self, one, other):
        """The paper shows what is so: both lists lead, step by step, to URLs at which no step is possible."""
        found = paper(parse(one), parse(other))
        self.assertEqual([type(each) for each in (found, *found)], [tuple, list, list])
        ends = []
        for text, rows in zip((one, other), found):
            for step in rows:
                self.assertEqual([type(each) for each in (step, *step)], [tuple, str, int])
                behind = second_steps.all_steps(text)
                self.assertIn(step, behind, (one, other))
                text = behind[step]
            ends.append(text)
        if alike(parse(one), parse(other)):
            self.assertEqual(ends[0], ends[1])
        else:
            self.assertNotEqual(ends[0], ends[1])
            self.assertEqual([second_steps.all_steps(text) for text in ends], [{}, {}])

    def test_alike_and_unlike(self):
        texts = ("", B, "HTTP://@A.B:080/c/./d;p?^71", "s:/x/..", "s:/", "//@H:?")
        for one, other in itertools.product(texts, repeat=2):
            self.assert_holds(one, other)

    def test_each_row(self):
        for text in ROWS:
            self.assert_holds(text, text)
            self.assert_holds(text, "s:")

    def test_texts_of_all_shapes(self):
        texts = [*filter(is_url, short_texts()), *random_texts(1000, 8)]
        for one, other in zip(texts, reversed(texts)):
            self.assert_holds(one, other)

    def test_nothing_to_do(self):
        self.assertEqual(paper(one=parse("s:/a"), other=parse("s:/b")), ([], []))

    def test_each_list_is_new(self):
        one, other = parse("A:"), parse("B:")
        for rows in paper(one, one) + paper(one, other):
            rows.append(None)
        self.assertEqual(paper(one, other), ([("lower", 0)], [("lower", 0)]))
        first, second = paper(one, one)
        self.assertIsNot(first, second)


class LongTexts(unittest.TestCase):
    def test_long_ways(self):
        for text in ("s://h/" + "^7e^c3x" * 1000, "S:/" + "a/../" * 1000, "s:/" + "../" * 1500 + "/x", "/." * 2500,
                     "/." + "/" * 3000 + "..", "s:/.//" + "x/" * 1000 + "../" * 1005 + "/y", "s://" + "^4A" * 1500,
                     "s:/" + "^2e^2e/" * 1000, "http://h" + "/^2e//../" * 1000, "s:/.//" + ".././/" * 1000,
                     "s://h/" + "a" * 5000 + "/..", "s://h/?" + "^6a&" * 1500):
            with self.subTest(text[:20]):
                url = here = parse(text)
                way, _ = paper(url, parse(""))
                self.assertIn(way[0], steps(url))
                for step in way:
                    here = after(here, step)
                self.assertEqual(steps(here), [])
                self.assertTrue(here == normal(url))
                self.assertIs(alike(url, here), True)


if __name__ == "__main__":
    unittest.main()
