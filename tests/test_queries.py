"""pairs, query_of and values_of: queries as ordered lists of pairs [14]."""

import itertools
import random
import re
import unittest

from common import ANY_VALUES, all_texts
from urlplaces.errors import BadQuery
from urlplaces.parsing import is_url, parse
from urlplaces.queries import pairs, query_of, values_of

# The signs that may stand in keys and values, written otherwise than in the program.
SIGNS = [chr(code) for code in range(32, 127) if code != 37]
ESCAPE = re.compile(r"\^([0-9A-Fa-f]{2})")


def second_pairs(query):
    """The pairs of a query, or the index of the first escape whose sign may not stand there."""
    for found in ESCAPE.finditer(query):
        if chr(int(found.group(1), 16)) not in SIGNS:
            return found.start()
    rows = []
    for item in re.findall("(?:^|&)([^&]*)", query) if query else []:
        key, value = re.fullmatch("([^=]*)(=.*)?", item).groups()
        rows.append((unescaped(key), None if value is None else unescaped(value[1:])))
    return rows


def unescaped(text):
    return ESCAPE.sub(lambda found: chr(int(found.group(1), 16)), text)


def second_query(items):
    return "&".join(re.sub(r"[^\w\-.~!$'()*+,;:@/?]", mark, key)
                    + ("" if value is None else "=" + re.sub(r"[^\w\-.~!$'()*+,;:@/?=]", mark, value))
                    for key, value in items)


def mark(found):
    return "^" + format(ord(found.group()), "02X")


class PairsCase(unittest.TestCase):
    def assert_pairs(self, query, wanted):
        with self.subTest(query):
            self.assertTrue(is_url("?" + query))
            found = pairs(query)
            self.assertEqual(found, wanted)
            self.assertEqual([type(each) for each in (found, *found)], [list] + [tuple] * len(found))

    def assert_bad(self, query, place):
        with self.subTest(query):
            self.assertTrue(is_url("?" + query))
            for ask in (pairs, lambda text: values_of(text, "a"), lambda text: values_of(text, "nothing", default=None)):
                with self.assertRaises(BadQuery) as caught:
                    ask(query)
                self.assertEqual((caught.exception.place, type(caught.exception.place)), (place, int))


class Pairs(PairsCase):
    def test_of_the_interface(self):
        self.assert_pairs("a=1&b&=&c=x=y^26", [("a", "1"), ("b", None), ("", ""), ("c", "x=y&")])

    def test_empty_queries_and_items(self):
        self.assert_pairs("", [])
        self.assert_pairs("&", [("", None), ("", None)])
        self.assert_pairs("&&", [("", None)] * 3)
        self.assert_pairs("a&", [("a", None), ("", None)])
        self.assert_pairs("&a", [("", None), ("a", None)])
        self.assert_pairs("a&&b", [("a", None), ("", None), ("b", None)])

    def test_signs_of_equality(self):
        self.assert_pairs("=", [("", "")])
        self.assert_pairs("==", [("", "=")])
        self.assert_pairs("a=", [("a", "")])
        self.assert_pairs("=a", [("", "a")])
        self.assert_pairs("a==b=", [("a", "=b=")])
        self.assert_pairs("a", [("a", None)])
        self.assert_pairs("a^3Db=c^3dd", [("a=b", "c=d")])
        self.assert_pairs("a^3D", [("a=", None)])

    def test_order_and_duplicates(self):
        self.assert_pairs("b=2&a=1&b=2&b=1&b", [("b", "2"), ("a", "1"), ("b", "2"), ("b", "1"), ("b", None)])

    def test_signs_that_mean_nothing_here(self):
        self.assert_pairs("a+b=c+d", [("a+b", "c+d")])
        self.assert_pairs("a;b=1;c", [("a;b", "1;c")])
        self.assert_pairs("a?b=/?:@", [("a?b", "/?:@")])

    def test_escapes_with_small_and_capital_letters(self):
        self.assert_pairs("^7e^7E=^3f^3F", [("~~", "??")])
        self.assert_pairs("^26^41^3d=^5e", [("&A=", "^")])
        self.assert_pairs("^20=^20^20", [(" ", "  ")])
        self.assert_pairs("^5E41", [("^41", None)])
        self.assert_pairs("^5E=^5E^35^45", [("^", "^5E")])

    def test_every_octet(self):
        for number in range(256):
            for escape in (f"^{number:02x}", f"^{number:02X}"):
                if chr(number) in SIGNS:
                    self.assert_pairs(f"{escape}=x{escape}", [(chr(number), "x" + chr(number))])
                else:
                    self.assert_bad(escape, 0)
                    self.assert_bad("a=1&b=^41" + escape, 10 - 1)

    def test_every_sign_of_a_query(self):
        for sign in SIGNS:
            if is_url("?" + sign) and sign not in "&=#":
                self.assert_pairs(f"{sign}={sign}", [(sign, sign)])

    def test_the_first_escape_whose_sign_may_not_stand_there(self):
        self.assert_bad("^00", 0)
        self.assert_bad("^25", 0)
        self.assert_bad("^1F", 0)
        self.assert_bad("^7f", 0)
        self.assert_bad("^ff^00", 0)
        self.assert_bad("^20^0a", 3)
        self.assert_bad("a=^41&b^80=c&d=^00", 7)
        self.assert_bad("a&b&c=^c3^a9&d", 6)
        self.assert_bad("&&&=^0A", 4)
        self.assert_bad("ok=1&bad=^09&ok=2", 9)

    def test_all_short_queries(self):
        for query in all_texts("&=a", 6):
            self.assert_pairs(query, second_pairs(query))

    def test_queries_of_pieces(self):
        pieces = ("&", "=", "a", "^41", "^26", "^3d", "^7F", "^5e", "+")
        for row in itertools.product(pieces, repeat=4):
            query = "".join(row)
            wanted = second_pairs(query)
            if isinstance(wanted, int):
                with self.assertRaises(BadQuery) as caught:
                    pairs(query)
                self.assertEqual(caught.exception.place, wanted)
            else:
                self.assertEqual(pairs(query), wanted)

    def test_each_list_is_new(self):
        pairs(query="a=1").append(("b", None))
        self.assertEqual(pairs("a=1"), [("a", "1")])
        pairs("").append(None)
        self.assertEqual(pairs(""), [])


class QueryOf(unittest.TestCase):
    def test_of_the_interface(self):
        self.assertEqual(query_of([("a b", "1=2"), ("&", None)]), "a^20b=1=2&^26")

    def test_short_lists(self):
        for items, wanted in (
                ([], ""), ([("", None)], ""), ([("", "")], "="), ([("", None), ("", None)], "&"),
                ([("", None), ("", "")], "&="), ([("a", None)], "a"), ([("a", "")], "a="), ([("", "a")], "=a"),
                ([("a", "1"), ("a", "1")], "a=1&a=1"), ([("=", "=")], "^3D=="), ([("&", "&")], "^26=^26"),
                ([("^41", "^")], "^5E41=^5E"), ([("a#", '"<>')], "a^23=^22^3C^3E"), ([("[]", "{|}")], "^5B^5D=^7B^7C^7D"),
                ([("`", "\\")], "^60=^5C"), ([("+ ", None)], "+^20")):
            with self.subTest(items):
                kept = list(items)
                self.assertEqual(query_of(items), wanted)
                self.assertEqual(items, kept)
        self.assertEqual(query_of(items=[("a", None)]), "a")

    def test_every_sign_there_and_back(self):
        alone = set("!$'()*+,;:@/?-._~")
        for sign in SIGNS:
            with self.subTest(sign):
                stands = sign.isalnum() or sign in alone
                key = sign if stands else f"^{ord(sign):02X}"
                value = sign if stands or sign == "=" else f"^{ord(sign):02X}"
                self.assertEqual(query_of([(sign, None)]), key)
                self.assertEqual(query_of([(sign, sign)]), f"{key}={value}")
                self.assertEqual(pairs(key), [(sign, None)])
                self.assertEqual(pairs(f"{key}={value}"), [(sign, sign)])

    def test_a_query_of_pairs_is_read_as_the_same_pairs(self):
        chance = random.Random(1)
        for _ in range(1500):
            items = [(text_by_chance(chance), chance.choice((None, text_by_chance(chance))))
                     for _ in range(chance.randrange(5))]
            query = query_of(items)
            self.assertEqual(query, second_query(items))
            self.assertTrue(is_url("s:?" + query))
            self.assertEqual(parse("s:?" + query).query, query)
            self.assertEqual(pairs(query), [] if items == [("", None)] else items)

    def test_reading_and_writing_stay(self):
        for query in all_texts("&=a", 5):
            self.assertEqual(query_of(pairs(query)), query)


def text_by_chance(chance):
    return "".join([chance.choice(SIGNS) for _ in range(chance.randrange(6))])


class ValuesOf(unittest.TestCase):
    def test_of_the_interface(self):
        self.assertEqual(values_of("a=1&a", "a"), ("1", None))

    def test_keys_that_are_there(self):
        for query, key, wanted in (
                ("a=1", "a", ("1",)), ("a", "a", (None,)), ("a=", "a", ("",)), ("b=2&a=1&b=1&b", "b", ("2", "1", None)),
                ("=x&y&&", "", ("x", None, None)), ("^61=1&a=^32", "a", ("1", "2")), ("a^20b=c^3d", "a b", ("c=",)),
                ("^5E61=1", "^61", ("1",)), ("a=1&A=2", "A", ("2",))):
            with self.subTest((query, key)):
                for found in (values_of(query, key), values_of(query, key, default=None),
                              values_of(default=[], key=key, query=query)):
                    self.assertIs(type(found), tuple)
                    self.assertEqual(found, wanted)

    def test_keys_that_are_not_there(self):
        for query, key in (("", ""), ("", "a"), ("a", ""), ("A=1", "a"), ("b=a", "a"), ("^5E61=1", "a"), ("^61", "^61")):
            with self.subTest((query, key)):
                self.assertEqual(values_of(query, key), ())
                for value in ANY_VALUES:
                    kept = repr(value)
                    found = values_of(query, key, default=value)
                    self.assertEqual((type(found), repr(found), repr(value)), (type(value), kept, kept))


class LongQueries(unittest.TestCase):
    def test_a_thousand_items(self):
        items = [(f"key {number}", f"value=&{number}") for number in range(2000)]
        query = query_of(items)
        self.assertTrue(pairs(query) == items)
        self.assertEqual(values_of(query, "key 1999"), ("value=&1999",))
        with self.assertRaises(BadQuery) as caught:
            pairs(query + "&^00")
        self.assertEqual(caught.exception.place, len(query) + 1)
        self.assertEqual(len(pairs("&" * 3000)), 3001)
        self.assertTrue(pairs("^41" * 2000) == [("A" * 2000, None)])


if __name__ == "__main__":
    unittest.main()
