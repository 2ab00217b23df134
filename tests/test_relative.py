"""relative: the least reference that leads from a base to a goal [10]."""

import random
import unittest

import second_reading
from common import all_texts
from urlplaces.bases import relative
from urlplaces.errors import NoBase
from urlplaces.joining import leads
from urlplaces.parsing import parse
from urlplaces.parts import Url

B = "http://a.b/c/d;p?q"
BASES = (
    "s://h", "s://h/", "s://h/a", "s://h/a/b", "s://h/a//b", "s://h/a/..", "s://h/a/./b", "s://h//", "s://h//a",
    "s://h/a/b/", "s:/", "s:/a", "s:/a/b", "s:/.//a", "s:/.//", "s:/a//", "s:/..//a/b", "s://h/a?a", "s:/a?", "s://h?",
    "s://a@h:/a/a/a", "s://h/a:/a", "s:/a/a:a", "s:///a", "s://h/a:a", "s://h///b", "s://h/^2e/a", "s://h/./", "s:/./a")


def references(signs, most):
    """The texts of references of these signs with their parts, the least one first."""
    found = []
    for text in all_texts(signs, most):
        parts = second_reading.read(text)
        if isinstance(parts, dict):
            found.append((text, parts))
    return found


def least_ones(base, rows):
    """The least one of these references for each goal to which one leads."""
    found = {}
    for text, parts in rows:
        found.setdefault(second_reading.written(second_reading.joined(second_reading.read(base), parts)), text)
    return found


class RelativeCase(unittest.TestCase):
    def assert_relative(self, base, goal, wanted):
        with self.subTest((base, goal)):
            found = relative(parse(base), parse(goal))
            if wanted is None:
                self.assertIsNone(found)
            else:
                self.assertIs(type(found), Url)
                self.assertEqual(str(found), wanted)
                self.assertTrue(found == parse(wanted))
                self.assertIs(leads(parse(base), found, parse(goal)), True)


class Examples(RelativeCase):
    def test_of_the_interface(self):
        self.assert_relative(B, B, "")
        self.assert_relative(B, "http://a.b/c/", ".")
        self.assert_relative(B, "http://a.b/", "/")
        self.assert_relative(B, "http://a.b/c/x:y", "./x:y")
        self.assert_relative(B, "http://a.b/./c", None)

    def test_goals_that_are_the_base(self):
        for text in ("s://h", "s:/", "s:/./a/..", "s://h/a?", "s:/.//a", "S://u@H:0/^2e?q"):
            self.assert_relative(text, text, "")
            self.assert_relative(text, text + "#f", "#f")
            self.assert_relative(text + "#f", text, "")
            self.assert_relative(text + "#f", text + "#", "#")

    def test_goals_that_differ_in_the_query(self):
        self.assert_relative(B, "http://a.b/c/d;p?x", "?x")
        self.assert_relative(B, "http://a.b/c/d;p?", "?")
        self.assert_relative(B, "http://a.b/c/d;p?x#", "?x#")
        self.assert_relative(B, "http://a.b/c/d;p", "d;p")
        self.assert_relative("s://h/?q", "s://h/", ".")
        self.assert_relative("s://h/a/?q", "s://h/a/", ".")
        self.assert_relative("s://h?q", "s://h", "//h")
        self.assert_relative("s://h/a", "s://h/a?", "?")
        self.assert_relative("s:/a/longer?q", "s:/a/longer", "longer")
        self.assert_relative("s:/longer/a/:?q", "s:/longer/a/:", "./:")
        self.assert_relative("s:/./a?q", "s:/./a?x", "?x")
        self.assert_relative("s:/./a?q", "s:/./a", None)

    def test_goals_that_differ_in_the_last_segment(self):
        self.assert_relative(B, "http://a.b/c/x", "x")
        self.assert_relative(B, "http://a.b/c/x?q", "x?q")
        self.assert_relative(B, "http://a.b/c", "/c")
        self.assert_relative(B, "http://a.b/c/d;p/", "d;p/")
        self.assert_relative("s://h", "s://h/x", "x")
        self.assert_relative("s://h/", "s://h/x#y", "x#y")
        self.assert_relative("s://h/a", "s://h/", ".")
        self.assert_relative("s://h/a/b/c", "s://h/a/b", "../b")
        self.assert_relative("s://h/long/b/c", "s://h/long/x", "../x")
        self.assert_relative("s://h/long/b/c", "s://h/long/", "..")

    def test_goals_in_other_folders(self):
        self.assert_relative("s://h/a/b/c", "s://h/x", "/x")
        self.assert_relative("s://h/long/b/c/d", "s://h/long/", "../..")
        self.assert_relative("s://h/long/b/c/d", "s://h/long/x/y", "../../x/y")
        self.assert_relative("s://h/a/b/c/d", "s://h/a/x", "/a/x")
        self.assert_relative("s://h/aaaaaa/b/c/d", "s://h/aaaaaa/x", "../../x")
        self.assert_relative("s://h/a/b", "s://h/a/b/c/d", "b/c/d")

    def test_goals_that_differ_in_an_empty_segment(self):
        self.assert_relative("s://h/a/b", "s://h/a//b", ".//b")
        self.assert_relative("s://h/a//b", "s://h/a/b", "../b")
        self.assert_relative("s://h/a/b", "s://h/a//", ".//")
        self.assert_relative("s://h/a", "s://h//", ".//")
        self.assert_relative("s://hh/a", "s://hh//b", ".//b")
        self.assert_relative("s:/a", "s:/.//b", ".//b")
        self.assert_relative("s:/a/a/b", "s:/.//b", "/.//b")
        self.assert_relative("s:/.//a", "s:/.//b", "b")
        self.assert_relative("s:/.//a", "s:/b", "/b")
        self.assert_relative("s://h/x/y/z", "s://h//b", "/.//b")
        self.assert_relative("s:///x/y/z", "s:////b", "/.//b")
        self.assert_relative("s://h/long/y/z", "s://h/long//b", "..//b")

    def test_goals_with_dot_segments(self):
        for goal in ("s://h/.", "s://h/..", "s://h/./a", "s://h/a/../b", "s://h/a/.", "s://h/a/.."):
            self.assert_relative("s://h/a/b", goal, None)
            self.assert_relative("t://k/a/b", goal, None)
            self.assert_relative(goal, goal + "?x", "?x")
            self.assert_relative(goal + "?x", goal, None)
            self.assert_relative(goal, goal.replace("h", "k"), None)
        self.assert_relative("s:/a", "s://h/.//a", None)
        self.assert_relative("s:/a", "s:/.//a", ".//a")
        self.assert_relative("s:/a", "s:/..//a", None)
        self.assert_relative("s:/a", "s:/^2e/^2E^2e", "^2e/^2E^2e")
        self.assert_relative("s:/a?.", "s:/a?/../.", "?/../.")

    def test_goals_that_differ_in_the_authority(self):
        self.assert_relative("s://h/a", "s://k/a", "//k/a")
        self.assert_relative("s://h/a", "s://k", "//k")
        self.assert_relative("s://h/a", "s://", "//")
        self.assert_relative("s://h/a", "s://H/a", "//H/a")
        self.assert_relative("s://h/a", "s://h:/a", "//h:/a")
        self.assert_relative("s://h/a", "s://@h/a", "//@h/a")
        self.assert_relative("s:/a", "s:///a", "///a")
        self.assert_relative("s:///a", "s:/a", "s:/a")
        self.assert_relative("s://h/a", "s:/.//a", "s:/.//a")
        self.assert_relative("s://h/a", "s://h", "//h")
        self.assert_relative("s://h/a", "s://h?q#f", "//h?q#f")

    def test_goals_that_differ_in_the_scheme(self):
        for goal in ("S://h/a", "t://h/a", "t:/a", "s:a", "t:../a", "t:", "s:", "s:?q#f"):
            self.assert_relative("s://h/a", goal, goal)
        self.assert_relative("s://h/a", "t:/../a", None)
        self.assert_relative("s://h/a", "t://h/.", None)

    def test_goals_without_a_scheme(self):
        for goal in ("", "a", "//h/a", "/a", "?q", "#f"):
            self.assert_relative("s://h/a", goal, None)

    def test_first_segments_with_a_colon(self):
        self.assert_relative("s:/a", "s:/:", "/:")
        self.assert_relative("s:/long/a", "s:/long/:", "./:")
        self.assert_relative("s:/long/a", "s:/long/b:c/d", "./b:c/d")
        self.assert_relative("s:/long/a", "s:/long/b/c:d", "b/c:d")
        self.assert_relative("s:/long/b/a", "s:/long/b:c", "../b:c")
        self.assert_relative("s:/long/a", "s:/long/b?c:d#e:f", "b?c:d#e:f")

    def test_the_first_one_in_the_order_of_strings(self):
        # Others of the same length lead there too: "/", "/.//b", "////b".
        self.assert_relative("s://h/x", "s://h/", ".")
        self.assert_relative("s:/a/b", "s:/.//b", "..//b")
        self.assert_relative("s:///x/y", "s:////b", "..//b")
        self.assert_relative("s://h/a/x", "s://h/", "/")
        self.assert_relative("s://h/a/b/x", "s://h/a/", "..")
        self.assert_relative("s://h/b/x", "s://h/b//", ".//")
        self.assert_relative("s://h/x", "s://h//y", ".//y")
        self.assert_relative("s:/a/b/c", "s:/x", "/x")
        self.assert_relative("s:/ab/c/d", "s:/ab/x", "../x")
        self.assert_relative("s:/a/c/d", "s:/a/x", "../x")

    def test_no_base(self):
        for base in ("", "a", "/a", "//h/a", "s:", "s:a", "s:?q"):
            for goal in (base, "s:/a", "", "s:./a"):
                with self.subTest((base, goal)):
                    with self.assertRaises(NoBase):
                        relative(parse(base), parse(goal))

    def test_arguments(self):
        base, goal = parse(B), parse("http://a.b/c/x?y#z")
        self.assertEqual(str(relative(base=base, goal=goal)), "x?y#z")
        self.assertEqual((str(base), str(goal)), (B, "http://a.b/c/x?y#z"))


class AllShortTexts(RelativeCase):
    def assert_least(self, signs, most):
        """No other text of these signs and lengths is less, for every goal to which one leads."""
        rows = references(signs, most)
        goals = {base: least_ones(base, rows) for base in BASES}
        for base, wanted in goals.items():
            for goal, least in wanted.items():
                self.assertEqual(str(relative(parse(base), parse(goal))), least, (base, goal))
        others = sorted({goal for wanted in goals.values() for goal in wanted if len(goal) < 13})
        for base, wanted in goals.items():
            for goal in random.Random(1).sample(others, min(len(others), 400)):
                found = relative(parse(base), parse(goal))
                if goal not in wanted and found is not None:
                    self.assertTrue(leads(parse(base), found, parse(goal)), (base, goal))
                    self.assertTrue(len(found) > most or set(str(found)) - set(signs), (base, goal))
                if goal in wanted:
                    self.assertEqual(str(found), wanted[goal])

    def test_of_slashes_and_dots(self):
        self.assert_least("/.a", 6)

    def test_of_colons_and_queries(self):
        self.assert_least("/.a:?", 4)

    def test_of_schemes_authorities_and_fragments(self):
        self.assert_least("/.abh:?#s@", 3)

    def test_of_schemes_and_authorities(self):
        self.assert_least("s:/h.", 5)


class Nothing(unittest.TestCase):
    def test_no_short_reference_leads_where_none_is_told(self):
        rows = references("/.a:?s", 5)
        for base in ("s://h/a/b", "s:/a/./b?a", "s:/.//a", "s://h"):
            reached = least_ones(base, rows)
            for goal in ("s://h/a/.", "s:/./a", "s:/..//a", "s://h/./", "/a", "s:/a/./b", "s://h//.", "s://h/a/../b"):
                found = relative(parse(base), parse(goal))
                self.assertEqual(None if found is None else str(found), reached.get(goal), (base, goal))


class LongPaths(RelativeCase):
    def test_a_thousand_segments(self):
        for base, goal, wanted in (
                ("s://h/" + "a/" * 2000 + "b", "s://h/" + "a/" * 2000 + "c", "c"),
                ("s://h/" + "a/" * 2000 + "b", "s://h/" + "a/" * 1999, ".."),
                ("s://h/" + "aaaaaa/" * 1000 + "b", "s://h/" + "aaaaaa/" * 500 + "c/d", "../" * 500 + "c/d"),
                ("s://h" + "/" * 3000, "s://h" + "/" * 3001, ".//"),
                ("s://h/", "s://h/" + "a/" * 2000, "a/" * 2000)):
            found = relative(parse(base), parse(goal))
            self.assertEqual(str(found), wanted)
            self.assertIs(leads(parse(base), found, parse(goal)), True)


if __name__ == "__main__":
    unittest.main()
