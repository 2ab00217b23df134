"""Routes: names for prefixes of URLs [15]."""

import random
import unittest

import second_reading
import second_steps
from urlplaces.errors import NoBase, NoRoute, TooMany
from urlplaces.parsing import is_url, parse
from urlplaces.routes import Routes

PREFIXES = ("s:/", "s:/a/", "s://h/", "S://H/", "s://h//", "s:/.//", "s:///", "s://u@h:1/a/", "s://h/./",
            "s://h/^2e/", "s://h/a/../", "s:/^41/")
NO_PREFIXES = ("", "a", "a/", "/", "/a/", "//h/", "s://", "s:", "s:a", "s:a/", "s://h", "s:/a", "s://h/a", "s://h/a/b", "s:/?",
               "s://h/?", "s://h/?q", "s://h/#", "s://h/a/#f", "s://h/a/?q/", "s://h/a/#/", "s://h?/", "s://h#/", "s:/.",
               "s:/a/..", "s://h/a^2F", "s:?/")


def table_of(rows):
    table = Routes()
    for text, name in rows:
        table.add(parse(text), name)
    return table


def normal(text):
    return second_steps.normal(text)


def is_prefix(text):
    parts = second_reading.read(text)
    if parts["scheme"] is None or parts["query"] is not None or parts["fragment"] is not None:
        return False
    return parts["path"].endswith("/") and (parts["host"] is not None or parts["path"].startswith("/"))


def second_answer(rows, text):
    """The name of the longest prefix that covers a text, or None."""
    found = {normal(prefix): name for prefix, name in rows if normal(text).startswith(normal(prefix))}
    return found[max(found, key=len)] if found else None


class RoutesCase(unittest.TestCase):
    def assert_name(self, table, text, wanted):
        with self.subTest(text):
            self.assertIs(table.covers(parse(text)), wanted is not None)
            if wanted is not None:
                self.assertEqual(table(parse(text)), wanted)
            else:
                self.assert_no_route(table, text)

    def assert_no_route(self, table, text):
        url = parse(text)
        with self.assertRaises(NoRoute) as caught:
            table(url)
        self.assertEqual(str(caught.exception.url), text)
        self.assertTrue(caught.exception.url == url)


class Examples(RoutesCase):
    def test_of_the_interface(self):
        table = Routes()
        self.assertIsNone(table.add(parse("s://h/a/"), "files"))
        found = [table(parse("S://h/a/b/../c?d")), table.covers(parse("s://h/a")), len(table)]
        self.assertEqual(found, ["files", False, 1])
        self.assertEqual((Routes.MOST, table.MOST), (50, 50))

    def test_an_empty_table(self):
        table = Routes()
        self.assertEqual(len(table), 0)
        for text in ("", "s:/", "s://h/a/"):
            self.assert_name(table, text, None)

    def test_arguments_by_name(self):
        table = Routes()
        table.add(name="x", prefix=parse("s:/a/"))
        self.assertTrue(table.covers(url=parse("s:/a/b")))
        self.assertEqual(table(url=parse("s:/a/b")), "x")
        self.assertEqual(table.remove(prefix=parse("s:/a/")), "x")


class Prefixes(RoutesCase):
    def test_what_is_a_prefix(self):
        for text in PREFIXES:
            with self.subTest(text):
                self.assertTrue(is_prefix(text))
                table = table_of([(text, "x")])
                self.assertEqual(len(table), 1)
                self.assert_name(table, text, "x")
                self.assertEqual(table.remove(parse(text)), "x")
                self.assertEqual(len(table), 0)

    def test_what_is_none(self):
        for text in NO_PREFIXES:
            with self.subTest(text):
                self.assertFalse(is_prefix(text))
                table = table_of([("s://h/a/", "x"), ("s:/", "y")])
                with self.assertRaises(NoBase):
                    table.add(parse(text), "z")
                with self.assertRaises(NoRoute) as caught:
                    table.remove(parse(text))
                self.assertEqual(str(caught.exception.url), text)
                self.assertEqual((len(table), table(parse("s://h/a/")), table(parse("s:/"))), (2, "x", "y"))

    def test_the_same_normal_form(self):
        table = table_of([("s://h/a/", "one"), ("S://H:/b/../^61/", "two")])
        self.assertEqual((len(table), table(parse("s://h/a/"))), (1, "two"))
        self.assertEqual(table.remove(parse("s://@h/./a/")), "two")
        self.assertEqual(len(table), 0)

    def test_empty_names(self):
        table = table_of([("s:/a/", "")])
        self.assert_name(table, "s:/a/b", "")
        self.assertEqual(table.remove(parse("s:/a/")), "")


class Cover(RoutesCase):
    def test_the_longest_prefix(self):
        rows = [("s://h/a/", "a"), ("s://h/", "top"), ("s://h/a/b/c/", "abc"), ("s://h/a/b/", "ab"), ("t://h/a/b/c/d/", "t")]
        for table in (table_of(rows), table_of(rows[::-1])):
            for text, wanted in (("s://h/a/b/c/d/", "abc"), ("s://h/a/b/c", "ab"), ("s://h/a/b", "a"), ("s://h/a", "top"),
                                 ("s://h", "top"), ("s://h/x/a/b/c/", "top"), ("s://hh/a/", None), ("t://h/a/b/c/", None)):
                self.assert_name(table, text, wanted)

    def test_whole_segments(self):
        table = table_of([("s://h/a/b/", "x")])
        for text, wanted in (("s://h/a/b/", "x"), ("s://h/a/b/c", "x"), ("s://h/a/b", None), ("s://h/a/bc", None),
                             ("s://h/a/bc/", None), ("s://h/a/", None), ("s://h/A/b/", None), ("s://h/a//b/", None),
                             ("s://h/a/b//", "x"), ("s://h/a/b/?q#f", "x"), ("s://h/a/b?q=/a/b/", None)):
            self.assert_name(table, text, wanted)

    def test_normal_forms(self):
        table = table_of([("S://H/a/./^62/", "x"), ("http://h:080/", "y")])
        for text, wanted in (("s://h/a/b/", "x"), ("s://h/x/../a/b/c", "x"), ("s://@h:/a/^62/c?^c3", "x"),
                             ("s://h/a/b/..", None), ("s://h/a/b/../", None), ("s://h/a/b/../b/", "x"),
                             ("s://h/a/b/^2e^2e/x", None), ("s://h/^2E/a/b/", "x"), ("HTTP://H", "y"),
                             ("http://h:80/x", "y"), ("http://h:81/x", None), ("https://h/", None)):
            self.assert_name(table, text, wanted)

    def test_what_is_no_base(self):
        table = table_of([("s:/", "s"), ("s://h/", "h")])
        for text in ("", "/", "//h/", "a", "s:", "s:a", "s:?/", "#", "h/"):
            self.assert_name(table, text, None)

    def test_texts_alone_are_compared(self):
        table = table_of([("s:/", "short")])
        self.assert_name(table, "s:/a", "short")
        self.assert_name(table, "s://h/a", "short")
        self.assert_name(table, "s:/.//a", "short")
        table.add(parse("s:///"), "empty")
        self.assert_name(table, "s:///a", "empty")
        self.assert_name(table, "s:/.//a", "short")

    def test_against_the_second_reading(self):
        chance = random.Random(1)
        pieces = ("/", "/", "a", "b", "/..", "/^2e", "^61", "?q", "#f")
        texts = []
        while len(texts) < 500:
            text = chance.choice(("s:", "S:", "t:", "")) + chance.choice(("", "//h", "//H", "//@h:", "//"))
            text += "".join([chance.choice(pieces) for _ in range(chance.randrange(6))])
            if is_url(text):
                texts.append(text)
        prefixes = [text for text in texts if is_prefix(text)]
        self.assertGreater(len(prefixes), 30)
        for _ in range(60):
            rows = [(text, str(number)) for number, text in enumerate(chance.sample(prefixes, 6))]
            table = table_of(rows)
            self.assertEqual(len(table), len({normal(text) for text, _ in rows}))
            for text in chance.sample(texts, 60):
                self.assert_name(table, text, second_answer(rows, text))


class Sizes(RoutesCase):
    def test_fifty_prefixes(self):
        table = table_of([(f"s:/{number}/", f"n{number}") for number in range(50)])
        self.assertEqual(len(table), 50)
        with self.assertRaises(TooMany) as caught:
            table.add(parse("s:/50/"), "more")
        self.assertEqual(caught.exception.most, 50)
        self.assertEqual((len(table), table.covers(parse("s:/50/"))), (50, False))
        table.add(parse("S:/./7/"), "new")
        self.assertEqual((len(table), table(parse("s:/7/")), table(parse("s:/8/"))), (50, "new", "n8"))
        self.assertEqual(table.remove(parse("s:/9/")), "n9")
        self.assertIsNone(table.add(parse("s:/50/"), "more"))
        self.assertEqual((len(table), table(parse("s:/50/x"))), (50, "more"))
        with self.assertRaises(TooMany):
            table.add(parse("s:/9/"), "n9")

    def test_the_first_error_is_raised(self):
        table = table_of([(f"s:/{number}/", "x") for number in range(50)])
        for text in NO_PREFIXES:
            with self.assertRaises(NoBase):
                table.add(parse(text), "x")

    def test_what_is_not_there_is_not_removed(self):
        table = table_of([("s://h/a/", "x")])
        for text in ("s://h/", "s://h/a/b/", "s:/a/", "t://h/a/", "s://h/A/"):
            with self.assertRaises(NoRoute) as caught:
                table.remove(parse(text))
            self.assertEqual(str(caught.exception.url), text)
        table.remove(parse("s://h/a/"))
        with self.assertRaises(NoRoute):
            table.remove(parse("s://h/a/"))
        self.assertEqual(len(table), 0)

    def test_two_tables_share_nothing(self):
        one, other = Routes(), Routes()
        one.add(parse("s:/a/"), "one")
        self.assertEqual((len(one), len(other), other.covers(parse("s:/a/"))), (1, 0, False))
        other.add(parse("s:/a/"), "other")
        one.remove(parse("s:/a/"))
        self.assertEqual((len(one), other(parse("s:/a/"))), (0, "other"))

    def test_long_texts(self):
        rows = [("s://h/" + "a/" * 40 * number, str(number)) for number in range(50)]
        table = table_of(rows)
        self.assertEqual(table(parse("s://h/" + "a/" * 1999)), "49")
        self.assertEqual(table(parse("s://h/" + "^61/./" * 999)), "24")


if __name__ == "__main__":
    unittest.main()
