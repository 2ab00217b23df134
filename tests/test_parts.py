"""Url.of, replaced, properties, equality, and what a URL is as a string."""

import inspect
import itertools
import unittest

import second_reading
from urlplaces.errors import BadPart
from urlplaces.parsing import parse
from urlplaces.parts import Url

BASE = "http://a.b/c/d;p?q"
ANY_VALUES = (True, False, 0, 80, -1, b"", (), ("s",), [], ["s"], {}, {"s": 1}, Url.of(path="s"), " ", "\n", "\u00e9")
EMPTY = {"scheme": None, "user": None, "host": None, "port": None, "path": "", "query": None, "fragment": None}


class BadPartCase(unittest.TestCase):
    def assert_bad_part(self, name, **parts):
        with self.subTest(parts):
            with self.assertRaises(BadPart) as caught:
                Url.of(**parts)
            self.assertEqual(caught.exception.name, name)


class Interface(unittest.TestCase):
    def test_example(self):
        url = parse(BASE)
        found = [url.host, url.port, url.path, str(url.replaced(query=None, port="8")),
                 Url.of(host="", path="/x").has_authority]
        self.assertEqual(found, ["a.b", None, "/c/d;p", "http://a.b:8/c/d;p", True])

    def test_names_of_the_parts(self):
        self.assertEqual(Url.PARTS, ("scheme", "user", "host", "port", "path", "query", "fragment"))
        self.assertIs(type(Url.PARTS), tuple)

    def test_everything_stands_in_the_class_itself(self):
        for name in Url.PARTS + ("has_authority", "is_base", "is_opaque"):
            self.assertIsInstance(vars(Url)[name], property)
        for name in ("replaced", "__str__", "__repr__", "__len__", "__eq__", "__add__"):
            self.assertTrue(inspect.isfunction(vars(Url)[name]), name)
        self.assertIsInstance(vars(Url)["of"], classmethod)

    def test_parameters_of_of(self):
        parameters = inspect.signature(Url.of).parameters.values()
        self.assertEqual({each.name: each.default for each in parameters}, EMPTY)
        self.assertEqual({each.kind for each in parameters}, {inspect.Parameter.KEYWORD_ONLY})
        with self.assertRaises(TypeError):
            Url.of("s")

    def test_parts_are_not_assigned(self):
        url = parse(BASE)
        for name in Url.PARTS + ("has_authority", "is_base", "is_opaque"):
            with self.assertRaises(AttributeError):
                setattr(url, name, "x")
        self.assertEqual(str(url), BASE)


class Of(BadPartCase):
    def test_nothing_is_the_empty_url(self):
        url = Url.of()
        self.assertEqual({name: getattr(url, name) for name in Url.PARTS}, EMPTY)
        self.assertEqual((str(url), len(url), repr(url), bool(url)), ("", 0, "Url('')", False))

    def test_all_parts(self):
        parts = dict(zip(Url.PARTS, ("s", "u", "h", "1", "/p", "q", "f")))
        url = Url.of(**parts)
        self.assertEqual({name: getattr(url, name) for name in Url.PARTS}, parts)
        self.assertEqual(str(url), "s://u@h:1/p?q#f")

    def test_path_is_not_absent(self):
        self.assert_bad_part("path", path=None)
        self.assert_bad_part("path", path=None, query=1)

    def test_any_values_that_are_no_parts(self):
        for name in Url.PARTS:
            for value in ANY_VALUES:
                self.assert_bad_part(name, **{"host": "h", name: value})

    def test_texts_of_wrong_signs(self):
        wrong = {
            "scheme": ("", "1", "a:", "a_", "a^41", "+"),
            "user": ("@", "/", "^", "^4", "^4g", "[", "?", "#"),
            "host": (":", "@", "/", "^", "h[1]", "[", "[]", "[1", "[g]", "[1]x", "[1]]", "[^41]", "[1]:", "]", "?"),
            "port": ("x", "65536", "99999", "000000", "1 ", "-1", "^31", "\u0661"),
            "path": ("?", "#", "[", "^", "/^4", " "),
            "query": ("#", "[", "^", "^g1", " "),
            "fragment": ("#", "[", "^", "^1", " "),
        }
        for name, texts in wrong.items():
            for text in texts:
                self.assert_bad_part(name, **{"host": "h", name: text})

    def test_texts_of_right_signs(self):
        right = {
            "scheme": ("a", "Z9+-."),
            "user": ("", ":", "^4a", "a:b:c"),
            "host": ("", "h", "^FF", "[1]", "[:.aF]", "!$&'()*+,;="),
            "port": ("", "0", "65535", "00000"),
            "path": ("", "/", "//", "/:@^00"),
            "query": ("", "?/:@", "^ff"),
            "fragment": ("", "?/:@", "^ff"),
        }
        for name, texts in right.items():
            for text in texts:
                with self.subTest((name, text)):
                    self.assertEqual(getattr(Url.of(**{"host": "h", name: text}), name), text)

    def test_the_first_bad_part_is_told(self):
        bad = {name: 0 for name in Url.PARTS}
        for name in Url.PARTS:
            self.assert_bad_part(name, **bad)
            del bad[name]

    def test_a_bad_part_comes_before_an_absent_host(self):
        self.assert_bad_part("fragment", user="u", port="1", path="//", fragment="#")
        self.assert_bad_part("port", user="u", port="x")
        self.assert_bad_part("user", user="u", port="1", path="//")
        self.assert_bad_part("user", user="", path="//")
        self.assert_bad_part("port", port="1", path="//")
        self.assert_bad_part("port", port="", scheme="s")

    def test_paths_that_are_not_possible(self):
        self.assert_bad_part("path", path="a:b")
        self.assert_bad_part("path", path=":")
        self.assert_bad_part("path", path="a:b/c", query="q")
        self.assert_bad_part("path", path="//")
        self.assert_bad_part("path", path="//a", scheme="s")
        self.assert_bad_part("path", path="a", host="")
        self.assert_bad_part("path", path="a", scheme="s", host="h")

    def test_paths_that_are_possible(self):
        for parts in ({"path": "a:b", "scheme": "s"}, {"path": "a/b:c"}, {"path": "/a:b"}, {"path": "//", "host": ""},
                      {"path": "/.//"}, {"path": "", "host": "h"}, {"path": "a//b"}, {"path": "./a:b"}):
            with self.subTest(parts):
                self.assertEqual(Url.of(**parts).path, parts["path"])

    def test_all_mixtures_against_the_second_reading(self):
        choices = {
            "scheme": (None, "", "s", "1", 5),
            "user": (None, "", "u:", "@", False),
            "host": (None, "", "h", "[::1]", "[", ("h",)),
            "port": (None, "", "80", "70000", 80),
            "path": ("", "/", "//", "a:b", "a/b:c", "/a:b", "?", None),
            "query": (None, "", "?q", "#", []),
            "fragment": (None, "f?", {}),
        }
        for values in itertools.product(*choices.values()):
            parts = dict(zip(choices, values))
            name = second_reading.bad_part(parts)
            try:
                url = Url.of(**parts)
            except BadPart as error:
                self.assertEqual(error.name, name, parts)
            else:
                self.assertIsNone(name, parts)
                self.assertEqual(str(url), second_reading.written(parts))
                self.assertTrue(parse(str(url)) == url)


class Replaced(unittest.TestCase):
    def test_parts_that_are_not_named_stay_sign_for_sign(self):
        text = "S://U^4a:@H^ff:007/.//a/../^7e?A=^20&#F'"
        url = parse(text)
        new = {"scheme": "x", "user": None, "host": "[1]", "port": None, "path": "", "query": None, "fragment": ""}
        for many in range(len(new) + 1):
            for names in itertools.combinations(new, many):
                changes = {name: new[name] for name in names}
                with self.subTest(changes):
                    found = url.replaced(**changes)
                    for name in Url.PARTS:
                        self.assertEqual(getattr(found, name), changes.get(name, getattr(url, name)))
                    self.assertEqual(str(url), text)

    def test_without_changes_it_is_equal(self):
        for text in ("", "s:", BASE, "//@:/", "?#", "a'b"):
            self.assertTrue(parse(text).replaced() == parse(text))
            self.assertEqual(str(parse(text).replaced()), text)

    def test_errors_and_their_order(self):
        cases = (
            (BASE, {"scheme": "", "path": None}, "scheme"),
            (BASE, {"path": None}, "path"),
            (BASE, {"path": "x"}, "path"),
            (BASE, {"query": 1, "fragment": 2}, "query"),
            ("//u@h:1/", {"host": None}, "user"),
            ("//h:1/", {"host": None}, "port"),
            ("//h:1", {"host": None, "port": "x"}, "port"),
            ("//h//", {"host": None}, "path"),
            ("s:a:b", {"scheme": None}, "path"),
            ("s:a", {"host": "h"}, "path"),
            ("s:a", {"user": "u"}, "user"),
            ("", {"port": "", "user": ""}, "user"),
            ("", {"path": "a:"}, "path"),
        )
        for text, changes, name in cases:
            with self.subTest((text, changes)):
                url = parse(text)
                with self.assertRaises(BadPart) as caught:
                    url.replaced(**changes)
                self.assertEqual(caught.exception.name, name)
                self.assertEqual(str(url), text)

    def test_any_values(self):
        for name in Url.PARTS:
            for value in ANY_VALUES:
                with self.subTest((name, value)):
                    with self.assertRaises(BadPart) as caught:
                        parse("s://u@h:1/p?q#f").replaced(**{name: value})
                    self.assertEqual(caught.exception.name, name)

    def test_other_names_are_refused(self):
        with self.assertRaises(TypeError):
            parse(BASE).replaced(password="x")

    def test_changed_values_have_no_effect(self):
        changes = {"query": "x"}
        url = parse(BASE).replaced(**changes)
        changes["query"] = "y"
        self.assertEqual(url.query, "x")


class Equality(unittest.TestCase):
    def test_urls_with_the_same_parts(self):
        self.assertTrue(parse(BASE) == parse(BASE))
        self.assertFalse(parse(BASE) != parse(BASE))
        self.assertTrue(Url.of(scheme="a", path="b") == parse("a:b"))

    def test_absent_and_empty_parts_are_distinct(self):
        texts = ("", "?", "#", "?#", "//", "//@", "//:", "//@:", "s:", "s:?", "s://", "/", "s:/", "S:/", "x^2f", "x^2F")
        for one, other in itertools.product(texts, repeat=2):
            with self.subTest((one, other)):
                self.assertIs(parse(one) == parse(other), one == other)
                self.assertIs(parse(one) != parse(other), one != other)

    def test_a_url_equals_nothing_else(self):
        class Everything:
            def __eq__(self, other):
                return True

        url = parse("a:b")
        parts = tuple(getattr(url, name) for name in Url.PARTS)
        for value in ("a:b", b"a:b", None, True, 0, [url], (url,), parts, list(parts), {"path": "b"}, Everything()):
            self.assertIs(url == value, False)
            self.assertIs(url != value, True)
        for value in ("", None, False, 0, [], ()):
            self.assertIs(parse("") == value, False)


if __name__ == "__main__":
    unittest.main()
