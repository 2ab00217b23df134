"""parse and is_url, against the examples, every kind of wrong place, and a second reading."""

import itertools
import unittest

import second_reading
from common import NO_STRINGS, all_texts, parts_of
from urlplaces.errors import BadUrl, NoText
from urlplaces.parsing import is_url, parse
from urlplaces.parts import Url


class ParsingCase(unittest.TestCase):
    def assert_wrong(self, text, kind, place):
        with self.subTest(text):
            with self.assertRaises(BadUrl) as caught:
                parse(text)
            self.assertEqual((caught.exception.kind, caught.exception.place), (kind, place))
            self.assertIs(is_url(text), False)

    def assert_parts(self, text, **parts):
        with self.subTest(text):
            url = parse(text)
            wanted = dict.fromkeys(Url.PARTS)
            wanted["path"] = ""
            wanted.update(parts)
            self.assertEqual(parts_of(url), wanted)
            self.assert_is_the_url_of(url, text)

    def assert_is_the_url_of(self, url, text):
        self.assertEqual((str(url), len(url), repr(url)), (text, len(text), f"Url({text!r})"))
        self.assertIs(is_url(text), True)
        self.assertTrue(parse(text) == url)
        self.assertTrue(Url.of(**parts_of(url)) == url)
        self.assertIs(bool(url), text != "")

    def assert_read_alike(self, text):
        wanted = second_reading.read(text)
        try:
            url = parse(text)
        except BadUrl as error:
            self.assertEqual((error.kind, error.place), wanted, text)
            self.assertIs(is_url(text), False, text)
        else:
            self.assertEqual(parts_of(url), wanted, text)
            self.assert_is_the_url_of(url, text)


class Examples(ParsingCase):
    def test_of_the_interface(self):
        found = [parse("//@:/").user, parse("s:").path, is_url("1:2"), is_url("./1:2")]
        self.assertEqual(found, ["", "", False, True])
        self.assert_wrong("//h:80x/^4", "port", 6)
        self.assert_wrong("//[^x]", "host", 3)

    def test_the_text_is_a_parameter_by_name(self):
        self.assertEqual(str(parse(text="s:x")), "s:x")
        self.assertIs(is_url(value="s:x"), True)


class Parts(ParsingCase):
    def test_all_parts(self):
        self.assert_parts("s://u:p@h:80/a/b?q?/#f?/", scheme="s", user="u:p", host="h", port="80",
                          path="/a/b", query="q?/", fragment="f?/")

    def test_absent_and_empty_parts(self):
        self.assert_parts("")
        self.assert_parts("?", query="")
        self.assert_parts("#", fragment="")
        self.assert_parts("?#", query="", fragment="")
        self.assert_parts("#?", fragment="?")
        self.assert_parts("//", host="")
        self.assert_parts("//@", user="", host="")
        self.assert_parts("//:", host="", port="")
        self.assert_parts("//@:/", user="", host="", port="", path="/")
        self.assert_parts("///", host="", path="/")
        self.assert_parts("////", host="", path="//")
        self.assert_parts("s:", scheme="s")
        self.assert_parts("s://", scheme="s", host="")
        self.assert_parts("s:?#", scheme="s", query="", fragment="")

    def test_every_mixture_of_parts(self):
        choices = {
            "scheme": (None, "s", "S+1.-"),
            "user": (None, "", "u:^41"),
            "host": ("", "h", "[::1]", "^ff"),
            "port": (None, "", "080"),
            "path": ("", "/", "/a:b//@"),
            "query": (None, "", "a=?/"),
            "fragment": (None, "", "f?'"),
        }
        for values in itertools.product(*choices.values()):
            parts = dict(zip(choices, values))
            self.assert_parts(second_reading.written(parts), **parts)

    def test_every_mixture_without_an_authority(self):
        paths = ("", "/", "/a//b", "a/b:c", "@", "..", "a'b")
        for scheme, path, query, fragment in itertools.product((None, "x"), paths, (None, "", "?"), (None, "", ":")):
            parts = {"scheme": scheme, "path": path, "query": query, "fragment": fragment}
            text = second_reading.written(dict(parts, user=None, host=None, port=None))
            self.assert_parts(text, **parts)

    def test_where_parts_begin_and_end(self):
        self.assert_parts("a:b:c", scheme="a", path="b:c")
        self.assert_parts("/a:b", path="/a:b")
        self.assert_parts("?a:b", query="a:b")
        self.assert_parts("#a:b//c", fragment="a:b//c")
        self.assert_parts("s:a//b", scheme="s", path="a//b")
        self.assert_parts("s:/a//b@c:d", scheme="s", path="/a//b@c:d")
        self.assert_parts("//a/@b:c", host="a", path="/@b:c")
        self.assert_parts("//a:1@b:2", user="a:1", host="b", port="2")
        self.assert_parts("//a?/b", host="a", query="/b")
        self.assert_parts("//a#@b", host="a", fragment="@b")
        self.assert_parts("//[a.F:]:5", host="[a.F:]", port="5")

    def test_every_sign_that_may_stand(self):
        common = "abcxyzABCXYZ0189-._~!$&'()*+,;=^00^aF^Fa^99"
        self.assert_parts("aZ09+-.:", scheme="aZ09+-.")
        self.assert_parts(f"//{common}:@{common}", user=common + ":", host=common)
        self.assert_parts(f"/{common}:@/", path=f"/{common}:@/")
        self.assert_parts(f"?{common}:@/?", query=f"{common}:@/?")
        self.assert_parts(f"#{common}:@/?", fragment=f"{common}:@/?")
        self.assert_parts("//[0123456789abcdefABCDEF:.]", host="[0123456789abcdefABCDEF:.]")

    def test_quotes_in_repr(self):
        self.assertEqual(repr(parse("a'b")), "Url(\"a'b\")")
        self.assertEqual(repr(parse("a:b")), "Url('a:b')")
        self.assertEqual(repr(parse("''?'#'")), "Url(\"''?'#'\")")

    def test_booleans(self):
        told = {
            "": (False, False, False), "x": (False, False, False), "/x": (False, False, False),
            "//h": (True, False, False), "//": (True, False, False), "?s:/": (False, False, False),
            "s:": (False, False, True), "s:x": (False, False, True), "s:x/y": (False, False, True),
            "s:?/": (False, False, True), "s:#//": (False, False, True), "s:/": (False, True, False),
            "s:/.//x": (False, True, False), "s://": (True, True, False), "s://h?q#f": (True, True, False),
        }
        for text, wanted in told.items():
            with self.subTest(text):
                url = parse(text)
                found = (url.has_authority, url.is_base, url.is_opaque)
                self.assertEqual(found, wanted)
                self.assertEqual([value is True or value is False for value in found], [True] * 3)

    def test_long_texts(self):
        path = "/a^2F" * 2000
        self.assert_parts(f"s://h{path}?{path}#{path}", scheme="s", host="h", path=path, query=path, fragment=path)
        self.assert_wrong(f"s://h{path}?{path}#{path}^", "escape", 30007)


class WrongPlaces(ParsingCase):
    def test_schemes(self):
        self.assert_wrong(":", "scheme", 0)
        self.assert_wrong(":a:b", "scheme", 0)
        self.assert_wrong("://h", "scheme", 0)
        self.assert_wrong("1:2", "scheme", 0)
        self.assert_wrong("+a:", "scheme", 0)
        self.assert_wrong("a_b:", "scheme", 1)
        self.assert_wrong("ab^41:", "scheme", 2)
        self.assert_wrong("ab^:", "scheme", 2)
        self.assert_wrong("a@b:c", "scheme", 1)
        self.assert_wrong("a b:c", "scheme", 1)
        self.assert_wrong("h[:]", "scheme", 1)
        self.assert_wrong("a\u00e9:", "scheme", 1)

    def test_a_colon_behind_the_first_slash_ends_no_scheme(self):
        self.assertIsNone(parse("1/:2").scheme)
        self.assertIsNone(parse("/1:2").scheme)
        self.assertIsNone(parse("//1:2").scheme)
        self.assertIsNone(parse("1?:2").scheme)
        self.assertIsNone(parse("1#:2").scheme)

    def test_escapes_in_each_part(self):
        for bad in ("^", "^4", "^g4", "^4g", "^^41", "^ 41", "^-1"):
            self.assert_wrong(bad, "escape", 0)
            self.assert_wrong(f"//{bad}@h:1/p?q#f", "escape", 2)
            self.assert_wrong(f"//u@{bad}:1/p?q#f", "escape", 4)
            self.assert_wrong(f"//u@h:1/{bad}?q#f", "escape", 8)
            self.assert_wrong(f"//u@h:1/p?{bad}#f", "escape", 10)
            self.assert_wrong(f"//u@h:1/p?q#{bad}", "escape", 12)

    def test_an_escape_stands_in_one_part(self):
        self.assert_wrong("//^4@1", "escape", 2)
        self.assert_wrong("//^4:1", "escape", 2)
        self.assert_wrong("//^4/1", "escape", 2)
        self.assert_wrong("/^4?1", "escape", 1)
        self.assert_wrong("?^4#1", "escape", 1)
        self.assert_wrong("^41^42^4", "escape", 6)

    def test_hosts_in_brackets(self):
        self.assert_wrong("//[]", "host", 3)
        self.assert_wrong("//[]:80", "host", 3)
        self.assert_wrong("//[", "host", 3)
        self.assert_wrong("//[/", "host", 3)
        self.assert_wrong("//[12", "host", 5)
        self.assert_wrong("//[12:80", "host", 8)
        self.assert_wrong("//[12/x]", "host", 5)
        self.assert_wrong("//[12?]", "host", 5)
        self.assert_wrong("s://u@[12#]", "host", 9)
        self.assert_wrong("//[1g]", "host", 4)
        self.assert_wrong("//[^41]", "host", 3)
        self.assert_wrong("//[^]", "host", 3)
        self.assert_wrong("//[1]x", "host", 5)
        self.assert_wrong("//[1]]", "host", 5)
        self.assert_wrong("//[1][2]:x", "host", 5)
        self.assert_wrong("//[1]^41", "host", 5)
        self.assert_wrong("//u@[1]80:80", "host", 7)
        self.assert_parts("//[1]:", host="[1]", port="")
        self.assert_parts("//[:.]/", host="[:.]", path="/")

    def test_brackets_elsewhere(self):
        self.assert_wrong("//h[1]", "sign", 3)
        self.assert_wrong("//[1]@h", "sign", 2)
        self.assert_wrong("//]", "sign", 2)
        self.assert_wrong("/[", "sign", 1)
        self.assert_wrong("?]", "sign", 1)

    def test_ports(self):
        self.assert_parts("//h:65535", host="h", port="65535")
        self.assert_parts("//h:00000", host="h", port="00000")
        self.assert_wrong("//h:65536", "port", 4)
        self.assert_wrong("//h:99999", "port", 4)
        self.assert_wrong("//h:655360", "port", 4)
        self.assert_wrong("//h:99999x", "port", 4)
        self.assert_wrong("//h:065536", "port", 9)
        self.assert_wrong("//h:123456", "port", 9)
        self.assert_wrong("//h:000001/", "port", 9)
        self.assert_wrong("//h:12345x", "port", 9)
        self.assert_wrong("//h:9999x9", "port", 8)
        self.assert_wrong("//h:x", "port", 4)
        self.assert_wrong("//h:-1", "port", 4)
        self.assert_wrong("//h:1^31", "port", 5)
        self.assert_wrong("//h:1:2", "port", 5)
        self.assert_wrong("//u@h:1@", "port", 7)
        self.assert_wrong("//[1]:70000", "port", 6)
        self.assert_wrong("//h:1\u0661", "port", 5)

    def test_signs_that_may_stand_nowhere(self):
        for bad in " \"<>\\`{|}\n\u00e9\u0661":
            self.assert_wrong(bad, "sign", 0)
            self.assert_wrong(f"//u{bad}@h", "sign", 3)
            self.assert_wrong(f"//u@h{bad}:1", "sign", 5)
            self.assert_wrong(f"s:a{bad}", "sign", 3)
            self.assert_wrong(f"?a{bad}", "sign", 2)
            self.assert_wrong(f"#a{bad}", "sign", 2)

    def test_signs_that_may_stand_in_other_parts(self):
        self.assert_wrong("//a@b@c", "sign", 5)
        self.assert_wrong("##", "sign", 1)
        self.assert_wrong("?#a#", "sign", 3)
        self.assert_wrong("a^23#^23#", "sign", 8)

    def test_the_least_index_counts(self):
        self.assert_wrong("1:^# ", "scheme", 0)
        self.assert_wrong("a:^ # ", "escape", 2)
        self.assert_wrong("a: ^# ", "sign", 2)
        self.assert_wrong("//[1:x^?^", "host", 5)
        self.assert_wrong("//[1?^", "host", 4)
        self.assert_wrong("//^@[x]:x", "escape", 2)
        self.assert_wrong("//h:x/ ^", "port", 4)
        self.assert_wrong("//[1]x:99999", "host", 5)
        self.assert_wrong("/#?^ ", "escape", 3)
        self.assert_wrong("/?^#\n", "escape", 2)


class AllTexts(ParsingCase):
    def test_of_any_signs(self):
        for text in all_texts(":/?#@[]^a1g ", 4):
            self.assert_read_alike(text)

    def test_of_authorities(self):
        for text in all_texts("@:[]/^a1", 5):
            self.assert_read_alike("//" + text)

    def test_of_brackets(self):
        for text in all_texts("]:.fg^/@?", 4):
            self.assert_read_alike("s://[" + text)

    def test_of_ports(self):
        for text in all_texts("0659x", 6):
            self.assert_read_alike("//h:" + text)

    def test_of_escapes(self):
        for text in all_texts("^aF1gG", 5):
            self.assert_read_alike("?" + text)

    def test_of_every_single_sign_in_each_part(self):
        signs = [chr(code) for code in range(256)] + ["\u0130", "\u0660", "\uff11", "\ud800"]
        for sign in signs:
            for before, behind in (("", ""), ("a", ":"), ("", ":"), ("//", "@h"), ("//u@", ":1"), ("//[", "]"),
                                   ("//h:", ""), ("/", ""), ("?", ""), ("#", ""), ("^4", ""), ("^", "4")):
                self.assert_read_alike(before + sign + behind)


class NoTexts(unittest.TestCase):
    def test_parse(self):
        for value in NO_STRINGS:
            with self.subTest(value):
                with self.assertRaises(NoText) as caught:
                    parse(value)
                self.assertIs(caught.exception.value, value)

    def test_is_url(self):
        for value in NO_STRINGS:
            with self.subTest(value):
                self.assertIs(is_url(value), False)


if __name__ == "__main__":
    unittest.main()
