"""stack, cleaned, join, leads, and base + reference: the joining of [8] and [9]."""

import itertools
import unittest

import second_reading
from common import all_texts, parts_of
from urlplaces.errors import NoBase
from urlplaces.joining import cleaned, join, leads, stack
from urlplaces.parsing import is_url, parse
from urlplaces.parts import Url

B = "http://a.b/c/d;p?q"


class Joined(unittest.TestCase):
    def assert_leads(self, base, rows):
        for reference, goal in rows.items():
            with self.subTest((base, reference)):
                found = join(parse(base), parse(reference))
                self.assertIs(type(found), Url)
                self.assertEqual(str(found), goal)
                self.assertTrue(parse(base) + parse(reference) == parse(goal))
                self.assertIs(leads(parse(base), parse(reference), parse(goal)), True)

    def test_examples(self):
        self.assert_leads(B, {
            "../g": "http://a.b/g", "?y": "http://a.b/c/d;p?y", "": "http://a.b/c/d;p?q", "//x": "http://x",
            ".": "http://a.b/c/", "s:../x": "s:../x", "x#y": "http://a.b/c/x#y",
        })

    def test_ordinary_references(self):
        self.assert_leads("http://a/b/c/d;p?q", {
            "g:h": "g:h", "g": "http://a/b/c/g", "./g": "http://a/b/c/g", "g/": "http://a/b/c/g/",
            "/g": "http://a/g", "//g": "http://g", "?y": "http://a/b/c/d;p?y", "g?y": "http://a/b/c/g?y",
            "#s": "http://a/b/c/d;p?q#s", "g#s": "http://a/b/c/g#s", "g?y#s": "http://a/b/c/g?y#s",
            ";x": "http://a/b/c/;x", "": "http://a/b/c/d;p?q", "./": "http://a/b/c/", "..": "http://a/b/",
            "../": "http://a/b/", "../g": "http://a/b/g", "../..": "http://a/", "../../g": "http://a/g",
            "../../../g": "http://a/g", "/./g": "http://a/g", "/../g": "http://a/g", "g.": "http://a/b/c/g.",
            "..g": "http://a/b/c/..g", "./../g": "http://a/b/g", "./g/.": "http://a/b/c/g/",
            "g/../h": "http://a/b/c/h", "g?y/../x": "http://a/b/c/g?y/../x", "http:g": "http:g",
        })

    def test_absent_and_empty_queries_and_fragments(self):
        self.assert_leads("s://h/a?q#f", {
            "": "s://h/a?q", "?": "s://h/a?", "#": "s://h/a?q#", "x": "s://h/x", "x?": "s://h/x?", "/": "s://h/",
            "//": "s://", "s:": "s:", "?#": "s://h/a?#",
        })

    def test_bases_with_an_empty_path(self):
        self.assert_leads("s://u@h:1", {
            "": "s://u@h:1", "x": "s://u@h:1/x", ".": "s://u@h:1/", "..": "s://u@h:1/", "?q": "s://u@h:1?q",
            "/x": "s://u@h:1/x", "//": "s://", "///": "s:///",
        })

    def test_bases_without_an_authority(self):
        self.assert_leads("s:/a/b", {
            "..//c": "s:/.//c", "/.//c": "s:/.//c", "/a/..//b/.": "s:/.//b/", "x": "s:/a/x", "t:/..//x": "t:/.//x",
            "//h//c": "s://h//c",
        })

    def test_empty_segments(self):
        self.assert_leads("s://h/a//b", {"..": "s://h/a/", "../..": "s://h/", "c": "s://h/a//c", "/..//x": "s://h//x"})

    def test_a_base_path_is_kept_with_its_dots_where_the_reference_has_no_path(self):
        self.assert_leads("s://h/a/./b/..", {"": "s://h/a/./b/..", "?x": "s://h/a/./b/..?x", "y": "s://h/a/b/y"})

    def test_escapes_are_not_looked_into(self):
        self.assert_leads("s://h/a/b", {"^2e^2e/c": "s://h/a/^2e^2e/c", "^2E": "s://h/a/^2E", "x^2f../..": "s://h/a/"})

    def test_opaque_references_stay(self):
        self.assert_leads(B, {"s:a/../b": "s:a/../b", "s:..": "s:..", "s:/a/../b": "s:/b", "s://h/..": "s://h/"})

    def test_no_base(self):
        for text in ("", "x", "/x", "//h/x", "s:", "s:x", "s:x/y", "s:?q"):
            for reference in ("", "x", "s:x", "http://a/b"):
                with self.subTest((text, reference)):
                    with self.assertRaises(NoBase):
                        parse(text) + parse(reference)
                    with self.assertRaises(NoBase):
                        join(parse(text), parse(reference))
                    with self.assertRaises(NoBase):
                        leads(parse(text), parse(reference), parse(text))

    def test_no_url_is_added(self):
        for value in ("x", None, 1):
            with self.assertRaises(TypeError):
                parse(B) + value

    def test_arguments_stay_as_they_are(self):
        base, reference = parse(B), parse("../x?y#z")
        base + reference
        join(base, reference)
        leads(base, reference, base)
        self.assertEqual((str(base), str(reference)), (B, "../x?y#z"))

    def test_arguments_by_name(self):
        base, reference, goal = parse(B), parse("g"), parse("http://a.b/c/g")
        self.assertTrue(join(base=base, reference=reference) == goal)
        self.assertIs(leads(base=base, reference=reference, goal=goal), True)

    def test_all_short_paths_against_the_second_reading(self):
        references = [parse(path) for path in all_texts("./a", 5)]
        for base in map(parse, ("s://h", "s://h/", "s:/", "s://h/b/c", "s:/b//c?q", "s:/.//", "s://h/b/..", "s://h//")):
            for reference in references:
                wanted = second_reading.joined(parts_of(base), parts_of(reference))
                self.assertEqual(parts_of(join(base, reference)), wanted, (base, reference))
                self.assertTrue(base + reference == join(base, reference))

    def test_references_of_all_shapes_against_the_second_reading(self):
        beginnings = ("", "t:", "s:", "//", "//k", "t://u@k:2")
        paths = ("", "x", "/x", "/x/../..//", "./x", "..", "//")
        ends = ("", "?", "?y", "#", "?#", "?y#z")
        texts = ["".join(row) for row in itertools.product(beginnings, paths, ends)]
        for base in map(parse, ("s://h/a/b", "s:/a/b?q#f", "s://u@h:1?q", "s:/?")):
            for reference in [parse(text) for text in texts if is_url(text)]:
                wanted = second_reading.joined(parts_of(base), parts_of(reference))
                self.assertEqual(parts_of(join(base, reference)), wanted, (base, reference))
                self.assertTrue(base + reference == join(base, reference))

    def test_long_paths(self):
        base = parse("s://h" + "/a" * 2000 + "/")
        self.assertEqual(str(base + parse("../" * 1999)), "s://h/a/")
        self.assertEqual(str(base + parse("./" * 2000 + "b")), str(base) + "b")


class Leads(unittest.TestCase):
    def test_goals_that_differ_in_one_part(self):
        base, reference = parse("s://u@h:1/a/b?q"), parse("c?d#e")
        goal = parse("s://u@h:1/a/c?d#e")
        self.assertIs(leads(base, reference, goal), True)
        changes = {"scheme": "S", "user": "U", "host": "H", "port": "01", "path": "/a/./c", "query": "",
                   "fragment": None}
        for name, value in changes.items():
            with self.subTest(name):
                self.assertIs(leads(base, reference, goal.replaced(**{name: value})), False)

    def test_alike_is_not_enough(self):
        self.assertIs(leads(parse("s://h/a"), parse("^41"), parse("s://h/A")), False)
        self.assertIs(leads(parse("S://h/a"), parse("b"), parse("s://h/b")), False)
        self.assertIs(leads(parse("s://h"), parse(""), parse("s://h/")), False)
        self.assertIs(leads(parse("s://h/a?q"), parse(""), parse("s://h/a")), False)

    def test_no_base_comes_first(self):
        with self.assertRaises(NoBase):
            leads(parse("//h/a"), parse("s:b"), parse("s:b"))


class Stack(unittest.TestCase):
    def test_of_the_interface(self):
        self.assertEqual(stack("/x/../.."), [""])
        self.assertEqual(stack(path="/a/b"), ["a", "b"])

    def test_dots_at_the_beginning_in_the_middle_and_at_the_end(self):
        rows = {
            "/": [""], "//": ["", ""], "///": ["", "", ""], "/a": ["a"], "/a/": ["a", ""], "//a": ["", "a"],
            "/.": [""], "/..": [""], "/./": [""], "/../": [""], "/./a": ["a"], "/../a": ["a"], "/../../../a": ["a"],
            "/a/./b": ["a", "b"], "/a/../b": ["b"], "/a/b/../../c": ["c"], "/a/../../b": ["b"], "/a//../b": ["a", "b"],
            "/a/.": ["a", ""], "/a/..": [""], "/a/b/..": ["a", ""], "/a/b/.": ["a", "b", ""], "/a/../..": [""],
            "//..": [""], "//.": ["", ""], "///..": ["", ""], "/./.": [""], "/../.": [""], "/a/./..": [""],
            "/...": ["..."], "/.a/..b/c.": [".a", "..b", "c."], "/^2e/^2e^2e": ["^2e", "^2e^2e"], "/.^2e": [".^2e"],
            "/a/^2E/..": ["a", ""], "/@:/..": [""],
        }
        for path, wanted in rows.items():
            with self.subTest(path):
                self.assertEqual(stack(path), wanted)

    def test_each_list_is_new(self):
        found = stack("/a/b")
        found.append("c")
        self.assertEqual(stack("/a/b"), ["a", "b"])

    def test_all_short_paths_against_the_second_reading(self):
        for path in all_texts("./a", 8):
            if path.startswith("/"):
                wanted = second_reading.without_dots(path)[1:].split("/")
                self.assertEqual(stack(path), wanted, path)


class Cleaned(unittest.TestCase):
    def test_of_the_interface(self):
        found = [cleaned("/a/..//b/."), cleaned("/a/..//b/.", has_authority=False), cleaned("../a")]
        self.assertEqual(found, ["//b/", "/.//b/", "../a"])

    def test_the_authority_counts_only_before_two_slashes(self):
        for path in ("/", "/a", "/a/../b/.", "/../a//", "/a/..", "/./a//b"):
            with self.subTest(path):
                self.assertEqual(cleaned(path, has_authority=False), cleaned(path, has_authority=True))
        for path, with_it, without in (("//", "//", "/.//"), ("/.//", "//", "/.//"), ("/..//a/..", "//", "/.//"),
                                       ("///..", "//", "/.//"), ("//..", "/", "/"), ("/.//../a", "/a", "/a")):
            with self.subTest(path):
                self.assertEqual(cleaned(path, has_authority=True), with_it)
                self.assertEqual(cleaned(path, has_authority=False), without)

    def test_paths_that_do_not_begin_with_a_slash_stay(self):
        for path in ("", ".", "..", "../a", "a/..", "a/./b", "./", "a//..", "^2e"):
            for has_authority in (True, False):
                with self.subTest(path):
                    self.assertEqual(cleaned(path, has_authority=has_authority), path)

    def test_arguments(self):
        self.assertEqual(cleaned(path="//", has_authority=False), "/.//")
        self.assertEqual(cleaned(path="/.//"), "//")
        with self.assertRaises(TypeError):
            cleaned("/", False)

    def test_all_short_paths_against_the_second_reading(self):
        for path in all_texts("./a", 8):
            plain = second_reading.without_dots(path) if path.startswith("/") else path
            self.assertEqual(cleaned(path), plain)
            plain = "/." + plain if plain.startswith("//") and path.startswith("/") else plain
            self.assertEqual(cleaned(path, has_authority=False), plain)
            self.assertEqual(cleaned(plain, has_authority=False), plain)

    def test_long_paths(self):
        self.assertEqual(cleaned("/a" * 3000 + "/.." * 2999), "/a/")
        self.assertEqual(cleaned("/." * 5000), "/")
        self.assertEqual(cleaned("/" * 5000), "/" * 5000)


if __name__ == "__main__":
    unittest.main()
