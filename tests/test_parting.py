"""parting and interchangeable: whether a reference tells two bases apart [13]."""

import itertools
import random
import unittest

import second_reading
import second_steps
from common import all_texts
from urlplaces.bases import interchangeable, parting
from urlplaces.errors import NoBase
from urlplaces.joining import join
from urlplaces.parsing import parse
from urlplaces.parts import Url
from urlplaces.rules import alike

B = "http://a.b/c/d;p?q"
ENDS = {}


def end_of(text):
    """The normal form of a text by the second reading."""
    if text not in ENDS:
        ENDS[text] = second_steps.normal(text)
    return ENDS[text]


def rank(text):
    return len(text), text


def references():
    """Texts of references with their parts, the least first: all short ones, and longer ones of each shape."""
    texts = [text for text in all_texts("!./?#a:", 3) if isinstance(second_reading.read(text), dict)]
    texts += ["../..", "../../..", "../../../..", "..//..", "../../a", "x/../..", "./../..", "^2e", "^2e^2e",
              "../^2e^2e", "^2e^2e/..", "../../^2e^2e", "//x", "//h", "s:x", "s:/x", "t://k", "?q", "?x#y", "/x/y",
              "/^2e^2e/x"]
    return [(text, second_reading.read(text)) for text in sorted(texts, key=rank)]


REFERENCES = references()


def least_that_parts(one, other):
    """The text of the least one of all these references that parts two bases, or None."""
    for text, parts in REFERENCES:
        ends = [end_of(second_reading.written(second_reading.joined(second_reading.read(base), parts)))
                for base in (one, other)]
        if ends[0] != ends[1]:
            return text
    return None


class PartingCase(unittest.TestCase):
    def assert_parts(self, one, other, wanted):
        with self.subTest((one, other)):
            for found in (parting(parse(one), parse(other)), parting(parse(other), parse(one))):
                if wanted is None:
                    self.assertIsNone(found)
                else:
                    self.assertIs(type(found), Url)
                    self.assertEqual(str(found), wanted)
                    self.assertTrue(found == parse(wanted))
                    self.assertFalse(alike(join(parse(one), found), join(parse(other), found)))
            self.assertIs(interchangeable(parse(one), parse(other)), wanted is None)
            self.assertIs(interchangeable(parse(other), parse(one)), wanted is None)


class Examples(PartingCase):
    def test_of_the_interface(self):
        self.assert_parts("s:/a/^2e^2e/b", "s:/b", "..")
        self.assert_parts(B, B, None)
        self.assert_parts("s:/x/^2e^2e", "s:/", "!")
        self.assert_parts(B, "HTTP://a.b:80/c/d;p?q", None)
        self.assert_parts("s://h", "s://h/", None)

    def test_bases_that_are_not_alike(self):
        for other in ("s://h/a", "s://h/a?x", "s://h/a?", "s://h/b?q", "s://h/a/?q", "s://h/a/b?q", "s://k/a?q",
                      "s://u@h/a?q", "s://h:1/a?q", "s:/a?q", "s:///a?q", "t://h/a?q", "s://h//a?q", "s://h?q",
                      "s://h/A?q", "s://h/a?Q"):
            self.assert_parts("s://h/a?q", other, "")

    def test_fragments_of_bases_do_not_count(self):
        self.assert_parts("s://h/a#x", "s://h/a#y", None)
        self.assert_parts("s://h/a#x", "s://h/a", None)
        self.assert_parts("s:/a/^2e^2e/b#x", "s:/b", "..")

    def test_interchangeable_bases(self):
        for one, other in (("s://h/a/b?q", "S://@H:/a/b?^71"), ("http://h:80/a", "HTTP://h/a"), ("s:/^41/b", "s:/A/b"),
                           ("s:/a/../b/c", "s:/b/c"), ("s:/./b", "s:/b"), ("s:/a/b/../c", "s:/a/c"),
                           ("s:/^2e/b", "s:/b"), ("s:/^2e^2e/b", "s:/b"), ("s:/^2E/^2e^2e/b", "s:/^2e^2E/b"),
                           ("s:/a/^2E/b", "s:/a/^2e/b"), ("s:/a/^2e^2e/b", "s:/a/.^2e/b"), ("s:/^c3/b", "s:/^C3/b"),
                           ("s:/.//b", "s:/..//b"), ("s://h/..", "s://h"), ("s:/a/..//b", "s:/.//b")):
            self.assert_parts(one, other, None)

    def test_dots_as_last_segments(self):
        # These are gone from what a reference goes on from, and what stands before them is not.
        self.assert_parts("s:/a/..", "s:/", "!")
        self.assert_parts("s:/a/.", "s:/a/", None)
        self.assert_parts("s:/a/b/..", "s:/a/", "!")
        self.assert_parts("s:/^2e", "s:/", None)
        self.assert_parts("s:/^2e^2e", "s:/", None)
        self.assert_parts("s:/a/^2e", "s:/a/", None)
        self.assert_parts("s:/a/^2e^2e", "s:/^2e/", "!")

    def test_escapes_of_dots_in_the_middle(self):
        self.assert_parts("s:/a/^2e/b", "s:/a/b", "..")
        self.assert_parts("s:/^2e/a/b", "s:/a/b", None)
        self.assert_parts("s:/a/^2e/c/b", "s:/a/c/b", "../..")
        self.assert_parts("s:/a/^2e^2e/c/b", "s:/c/b", "../..")
        self.assert_parts("s:/a/b/^2e^2e/^2e^2e/x", "s:/x", "..")
        self.assert_parts("s:/a/^2e^2e/b/^2e^2e/x", "s:/c/^2e^2e/x", "..")
        self.assert_parts("s:/a/^2e^2e/b/^2e^2e/x", "s:/b/^2e^2e/x", "../../..")
        self.assert_parts("s:/a/^2e^2e/x", "s:/b/^2e^2e/x", "..")
        self.assert_parts("s:/^2e^2e/^2e^2e/x", "s:/^2e/x", None)
        self.assert_parts("s:/a/^2e^2e/b/c/d/x", "s:/b/c/d/x", "../../../..")
        self.assert_parts("s:/^2e//x", "s:/.//x", None)
        self.assert_parts("s:/a/^2e^2e//x", "s:/.//x", "../..")

    def test_folders_that_differ_but_are_alike(self):
        self.assert_parts("s:/^41/^42/x", "s:/A/B/x", None)
        self.assert_parts("s:/^41/^2e/x", "s:/A/^2E/x", None)

    def test_no_base(self):
        for text in ("", "a", "/a", "//h/a", "s:", "s:a", "s:?q"):
            for one, other in ((text, B), (B, text), (text, text)):
                with self.subTest((one, other)):
                    with self.assertRaises(NoBase):
                        parting(parse(one), parse(other))
                    with self.assertRaises(NoBase):
                        interchangeable(parse(one), parse(other))

    def test_arguments(self):
        one, other = parse("s:/a/^2e^2e/b"), parse("s:/b")
        self.assertEqual(str(parting(one=one, other=other)), "..")
        self.assertIs(interchangeable(one=one, other=other), False)
        self.assertEqual((str(one), str(other)), ("s:/a/^2e^2e/b", "s:/b"))


class AgainstTheSecondReading(PartingCase):
    def assert_least(self, one, other):
        found = parting(parse(one), parse(other))
        text = None if found is None else str(found)
        self.assertEqual(text, least_that_parts(one, other), (one, other))
        self.assertIs(interchangeable(parse(one), parse(other)), text is None)

    def test_all_short_paths_with_escapes_of_dots(self):
        segments = ("/a", "/^2e", "/.^2E", "/..")
        rows = ["".join(row) for many in range(4) for row in itertools.product(segments, repeat=many)]
        groups = {}
        for text in ["s:" + row + end for row in rows for end in ("/x", "/")]:
            groups.setdefault(end_of(text), []).append(text)
        pairs = [pair for group in groups.values() for pair in itertools.combinations(group, 2)]
        for one, other in random.Random(1).sample(pairs, 250):
            self.assert_least(one, other)

    def test_bases_of_all_shapes(self):
        chance = random.Random(2)
        pieces = ("a", "b", "^2e", "^2e^2e", ".", ".^2E", "..", "", "A^41", "^61")
        found = []
        while len(found) < 120:
            text = chance.choice(("s:", "s:", "s:", "S:", "t:")) + chance.choice(("", "//h", "//H:", "//@h", "//k"))
            text += "/" + "/".join([chance.choice(pieces) for _ in range(chance.randrange(1, 5))])
            text += chance.choice(("", "", "?q", "?^71", "?"))
            if isinstance(second_reading.read(text), dict):
                found.append(text)
        pairs = [pair for pair in itertools.combinations(found, 2) if end_of(pair[0]) == end_of(pair[1])]
        for one, other in pairs[:150] + [chance.sample(found, 2) for _ in range(60)]:
            self.assert_least(one, other)


class LongPaths(unittest.TestCase):
    def test_a_thousand_segments(self):
        end = "a/" * 1500 + "x"
        rows = (
            ("s:/b/^2e^2e/" + end, "s:/" + end, "/".join([".."] * 1501)),
            ("s:/^2e^2e/" + end, "s:/" + end, None),
            ("s:/" + "a/^2e/" * 1000 + "x", "s:/" + "a/" * 1000 + "x", ".."),
            ("s:/" + "a/^2e^2e/" * 1000 + "b/x", "s:/" + "c/^2e^2e/" * 1000 + "b/x", "../.."),
            ("s:/" + "a/" * 1500 + "b", "s:/" + "a/" * 1500 + "^62", None),
            ("s:/a" + "/" * 3000, "s:/^61" + "/" * 3000, None),
            ("s:/a" + "/" * 3000, "s:/a" + "/" * 3001, ""),
        )
        for number, (one, other, wanted) in enumerate(rows):
            with self.subTest(number):
                found = parting(parse(one), parse(other))
                self.assertTrue((None if found is None else str(found)) == wanted)
                self.assertIs(interchangeable(parse(other), parse(one)), wanted is None)


if __name__ == "__main__":
    unittest.main()
