"""base + reference: the joining of [8] and [9]."""

import itertools
import unittest

import second_reading
from urlplaces.errors import NoBase
from urlplaces.parsing import is_url, parse
from urlplaces.parts import Url

B = "http://a.b/c/d;p?q"


def parts_of(url):
    return {name: getattr(url, name) for name in Url.PARTS}


class Joined(unittest.TestCase):
    def assert_leads(self, base, rows):
        for reference, goal in rows.items():
            with self.subTest((base, reference)):
                found = parse(base) + parse(reference)
                self.assertIs(type(found), Url)
                self.assertEqual(str(found), goal)

    def test_examples(self):
        self.assert_leads(B, {
            "../g": "http://a.b/g", "?y": "http://a.b/c/d;p?y", "": "http://a.b/c/d;p?q", "//x": "http://x",
            ".": "http://a.b/c/", "s:../x": "s:../x", "x#y": "http://a.b/c/x#y",
        })

    def test_ordinary_references(self):
        self.assert_leads("http://a/b/c/d;p?q", {
            "g:h": "g:h", "g": "http://a/b/c/g", "./g": "http://a/b/c/g", "g/": "http://a/b/c/g/",
            "/g": "http://a/g", "//g": "http://g", "?y": "http://a/b/c/d;p?y", "g?y": "http://a/b/c/g?y",
            "#s": "http://a/b/c/d;p?q#s", "g#s": "http://a/b/c/g#s", "g?y#s": "http://a/b/c/g?y#s",
            ";x": "http://a/b/c/;x", "": "http://a/b/c/d;p?q", "./": "http://a/b/c/", "..": "http://a/b/",
            "../": "http://a/b/", "../g": "http://a/b/g", "../..": "http://a/", "../../g": "http://a/g",
            "../../../g": "http://a/g", "/./g": "http://a/g", "/../g": "http://a/g", "g.": "http://a/b/c/g.",
            "..g": "http://a/b/c/..g", "./../g": "http://a/b/g", "./g/.": "http://a/b/c/g/",
            "g/../h": "http://a/b/c/h", "g?y/../x": "http://a/b/c/g?y/../x", "http:g": "http:g",
        })

    def test_absent_and_empty_queries_and_fragments(self):
        self.assert_leads("s://h/a?q#f", {
            "": "s://h/a?q", "?": "s://h/a?", "#": "s://h/a?q#", "x": "s://h/x", "x?": "s://h/x?", "/": "s://h/",
            "//": "s://", "s:": "s:", "?#": "s://h/a?#",
        })

    def test_bases_with_an_empty_path(self):
        self.assert_leads("s://u@h:1", {
            "": "s://u@h:1", "x": "s://u@h:1/x", ".": "s://u@h:1/", "..": "s://u@h:1/", "?q": "s://u@h:1?q",
            "/x": "s://u@h:1/x", "//": "s://", "///": "s:///",
        })

    def test_bases_without_an_authority(self):
        self.assert_leads("s:/a/b", {
            "..//c": "s:/.//c", "/.//c": "s:/.//c", "/a/..//b/.": "s:/.//b/", "x": "s:/a/x", "t:/..//x": "t:/.//x",
            "//h//c": "s://h//c",
        })

    def test_empty_segments(self):
        self.assert_leads("s://h/a//b", {"..": "s://h/a/", "../..": "s://h/", "c": "s://h/a//c", "/..//x": "s://h//x"})

    def test_a_base_path_is_kept_with_its_dots_where_the_reference_has_no_path(self):
        self.assert_leads("s://h/a/./b/..", {"": "s://h/a/./b/..", "?x": "s://h/a/./b/..?x", "y": "s://h/a/b/y"})

    def test_escapes_are_not_looked_into(self):
        self.assert_leads("s://h/a/b", {"^2e^2e/c": "s://h/a/^2e^2e/c", "^2E": "s://h/a/^2E", "x^2f../..": "s://h/a/"})

    def test_opaque_references_stay(self):
        self.assert_leads(B, {"s:a/../b": "s:a/../b", "s:..": "s:..", "s:/a/../b": "s:/b", "s://h/..": "s://h/"})

    def test_no_base(self):
        for text in ("", "x", "/x", "//h/x", "s:", "s:x", "s:x/y", "s:?q"):
            for reference in ("", "x", "s:x", "http://a/b"):
                with self.subTest((text, reference)):
                    with self.assertRaises(NoBase):
                        parse(text) + parse(reference)

    def test_no_url_is_added(self):
        for value in ("x", None, 1):
            with self.assertRaises(TypeError):
                parse(B) + value

    def test_arguments_stay_as_they_are(self):
        base, reference = parse(B), parse("../x?y#z")
        base + reference
        self.assertEqual((str(base), str(reference)), (B, "../x?y#z"))

    def test_all_short_paths_against_the_second_reading(self):
        paths = ["".join(row) for many in range(6) for row in itertools.product("./a", repeat=many)]
        references = [parse(path) for path in paths]
        for base in map(parse, ("s://h", "s://h/", "s:/", "s://h/b/c", "s:/b//c?q", "s:/.//", "s://h/b/..", "s://h//")):
            for reference in references:
                wanted = second_reading.joined(parts_of(base), parts_of(reference))
                self.assertEqual(parts_of(base + reference), wanted, (base, reference))

    def test_references_of_all_shapes_against_the_second_reading(self):
        beginnings = ("", "t:", "s:", "//", "//k", "t://u@k:2")
        paths = ("", "x", "/x", "/x/../..//", "./x", "..", "//")
        ends = ("", "?", "?y", "#", "?#", "?y#z")
        texts = ["".join(row) for row in itertools.product(beginnings, paths, ends)]
        for base in map(parse, ("s://h/a/b", "s:/a/b?q#f", "s://u@h:1?q", "s:/?")):
            for reference in [parse(text) for text in texts if is_url(text)]:
                wanted = second_reading.joined(parts_of(base), parts_of(reference))
                self.assertEqual(parts_of(base + reference), wanted, (base, reference))

    def test_long_paths(self):
        base = parse("s://h" + "/a" * 2000 + "/")
        self.assertEqual(str(base + parse("../" * 1999)), "s://h/a/")
        self.assertEqual(str(base + parse("./" * 2000 + "b")), str(base) + "b")


if __name__ == "__main__":
    unittest.main()
