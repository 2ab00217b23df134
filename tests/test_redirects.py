"""Redirects: rules, what a base leads to, what leads to it, and what tells two tables apart [20]."""

import random
import unittest

import second_branches as second
import second_steps
from common import ANY_VALUES, all_texts
from test_sites import BRANCHES, NO_BRANCHES
from urlplaces.errors import NoBase, NoRoute, TooMany
from urlplaces.parsing import is_url, parse
from urlplaces.parts import Url
from urlplaces.redirects import Redirects
from urlplaces.rules import normal

NO_BASES = ("", "a", "/a/b", "//h/a", "s:", "s:a/b", "s:?q", "#")


def table_of(rules):
    """The table with these rules, a dict of texts by texts."""
    table = Redirects()
    for branch, other in rules.items():
        table.add(parse(branch), parse(other))
    return table


def rules_of(table):
    return {str(branch): str(other) for branch, other in table.rules()}


def normal_rules(rules):
    return {second_steps.normal(branch): second_steps.normal(other) for branch, other in rules.items()}


def text_of(url):
    return None if url is None else str(url)


def normal_bases(signs, most, fronts):
    """All bases in normal form that begin with one of these fronts and go on with few of these signs."""
    found = [front + rest for front in fronts for rest in all_texts(signs, most)]
    found = [text for text in found if is_url(text) and second.is_base(text) and second_steps.normal(text) == text]
    return sorted(found, key=lambda text: (len(text), text))


class RedirectsCase(unittest.TestCase):
    def assert_rules(self, table, rules):
        self.assertEqual(rules_of(table), rules)
        self.assertEqual(len(table), len(rules))
        self.assertEqual([str(branch) for branch, _ in table.rules()], sorted(rules))
        self.assertEqual({type(row) for row in table.rules()} - {tuple}, set())

    def assert_following(self, table, text, wanted):
        with self.subTest(text):
            found = table.following(parse(text))
            self.assertEqual(text_of(found), wanted)
            self.assertIs(parse(text) in table, wanted is not None)
            self.assertIs(parse(text) not in table, wanted is None)
            if found is not None:
                self.assertIs(type(found), Url)
                self.assertTrue(found == parse(wanted) == normal(found))


class Examples(RedirectsCase):
    def test_of_the_interface(self):
        table = Redirects()
        self.assertIsNone(table.add(parse("s://h/a/"), parse("S://h/b/c/")))
        table.add(parse("s://h/b/c/d/"), parse("s://h/a/x/"))
        self.assert_following(table, "s://h/./a/d/e?q", "s://h/b/c/d/e?q")
        self.assertEqual(len(list(table.chain(parse("s://h/a/d/e")))), 4)
        self.assertEqual(str(table.final(parse("s://h/a/d/"))), "s://h/b/c/x/")
        self.assertTrue(table.final(parse("s://h/q")) == parse("s://h/q"))
        self.assertEqual((len(table), Redirects.MOST, table.MOST), (2, 50, 50))

    def test_arguments_by_name(self):
        table = Redirects()
        table.add(other=parse("s:/b/"), branch=parse("s:/a/"))
        url = parse("s:/a/x")
        self.assertEqual([str(found) for found in (table.following(url=url), table.final(url=url))], ["s:/b/x"] * 2)
        self.assertEqual([str(found) for found in table.chain(url=url)], ["s:/a/x", "s:/b/x"])
        self.assertEqual([str(found) for found in table.origins(url=parse("s:/b/x"))], ["s:/a/x"])
        self.assertEqual(str(table.telling(other=Redirects())), "s:/a/")
        self.assertEqual(str(table.remove(branch=parse("s:/a/"))), "s:/b/")

    def test_an_empty_table(self):
        table = Redirects()
        self.assert_rules(table, {})
        for text in ("s:/", "S://H/./a"):
            self.assert_following(table, text, None)
            self.assertEqual(str(table.final(parse(text))), second_steps.normal(text))
            self.assertEqual(table.origins(parse(text)), [])
        self.assertIsNone(table.telling(Redirects()))


class Rules(RedirectsCase):
    def test_normal_forms(self):
        table = table_of({"S://@H:/^61/": "HTTP://H:080/^7e/", "s:/.//": "S:///"})
        self.assert_rules(table, {"s://h/a/": "http://h/~/", "s:/.//": "s:///"})
        for text in BRANCHES:
            self.assert_rules(table_of({text: text}), {second_steps.normal(text): second_steps.normal(text)})

    def test_another_spelling_of_the_same_branch(self):
        table = table_of({"s://h/a/": "s://h/b/", "s://h/b/": "s://h/c/"})
        table.add(parse("S://H/^61/"), parse("s://h/x/"))
        self.assert_rules(table, {"s://h/a/": "s://h/x/", "s://h/b/": "s://h/c/"})
        self.assertEqual(str(table.remove(parse("s://h:/^61/"))), "s://h/x/")
        self.assert_rules(table, {"s://h/b/": "s://h/c/"})

    def test_no_branches(self):
        table = table_of({"s:/a/": "s:/b/"})
        for text in NO_BRANCHES:
            with self.subTest(text):
                self.assertRaises(NoBase, table.add, parse(text), parse("s:/c/"))
                self.assertRaises(NoBase, table.add, parse("s:/c/"), parse(text))
                self.assertRaises(NoBase, table.remove, parse(text))
        self.assert_rules(table, {"s:/a/": "s:/b/"})

    def test_what_is_not_there_is_not_removed(self):
        table = table_of({"s:/a/": "s:/b/"})
        for text in ("s:/b/", "s:/", "s:/a/b/", "s:///a/", "S:/A/"):
            url = parse(text)
            with self.assertRaises(NoRoute) as caught:
                table.remove(url)
            self.assertTrue(caught.exception.url == url)
        self.assert_rules(table, {"s:/a/": "s:/b/"})
        table.remove(parse("s:/a/"))
        self.assertRaises(NoRoute, table.remove, parse("s:/a/"))
        self.assert_following(table, "s:/a/x", None)

    def test_fifty_rules(self):
        rules = {f"s:/{number}/": f"s:/{number + 1}/" for number in range(50)}
        table = table_of(rules)
        self.assert_rules(table, rules)
        with self.assertRaises(TooMany) as caught:
            table.add(parse("s:/50/"), parse("s:/51/"))
        self.assertEqual(caught.exception.most, 50)
        self.assertRaises(NoBase, table.add, parse("s:/50/"), parse("s:/51"))
        self.assertEqual(str(table.final(parse("s:/0/x"))), "s:/50/x")
        table.add(parse("S:/^37/"), parse("s:/x/"))
        self.assert_rules(table, {**rules, "s:/7/": "s:/x/"})
        self.assertEqual(str(table.final(parse("s:/0/x"))), "s:/x/x")
        self.assertEqual(str(table.remove(parse("s:/9/"))), "s:/10/")
        table.add(parse("s:/50/"), parse("s:/51/"))
        self.assertRaises(TooMany, table.add, parse("s:/9/"), parse("s:/10/"))
        self.assertEqual(len(table), 50)

    def test_each_list_is_new(self):
        table = table_of({"s:/a/": "s:/b/"})
        table.rules().clear()
        table.origins(parse("s:/b/")).append(None)
        self.assert_rules(table, {"s:/a/": "s:/b/"})
        self.assertEqual(len(table.origins(parse("s:/b/"))), 1)

    def test_equality(self):
        rules = {"s:/a/": "s:/b/", "s:/b/": "s:/a/"}
        one, other = table_of(rules), table_of(dict(reversed(rules.items())))
        self.assertTrue(one == other and not one != other and Redirects() == Redirects())
        self.assertTrue(table_of({"S:/^61/": "s:/b/"}) == table_of({"s:/a/": "S:/^62/"}))
        other.add(parse("s:/b/"), parse("s:/c/"))
        self.assertFalse(one == other)
        other.remove(parse("s:/b/"))
        self.assertFalse(one == other)
        self.assertFalse(one == table_of({"s:/a/": "s:/b/", "s:/c/": "s:/a/"}))
        for value in (*ANY_VALUES, rules, one.rules()):
            for table in (one, Redirects()):
                self.assertIs(table == value, False)
                self.assertIs(table != value, True)

    def test_two_tables_share_nothing(self):
        one, other = Redirects(), Redirects()
        one.add(parse("s:/a/"), parse("s:/b/"))
        self.assert_rules(other, {})
        self.assert_following(other, "s:/a/", None)
        other.add(parse("s:/a/"), parse("s:/c/"))
        one.remove(parse("s:/a/"))
        self.assert_following(other, "s:/a/", "s:/c/")


class Following(RedirectsCase):
    def test_the_rule_with_the_longest_stack(self):
        rules = {"s:/": "t:/", "s:/a/": "t:/1/", "s:/a/b/c/": "t:/3/", "s:/a/b/": "t:/2/", "s:///": "t:/h/"}
        for table in (table_of(rules), table_of(dict(reversed(rules.items())))):
            for text, wanted in (("s:/", "t:/"), ("s:/a", "t:/a"), ("s:/a/", "t:/1/"), ("s:/a/b", "t:/1/b"),
                                 ("s:/a/b/", "t:/2/"), ("s:/a/b/c", "t:/2/c"), ("s:/a/b/c/d", "t:/3/d"),
                                 ("s:/b/a/", "t:/b/a/"), ("s:///a", "t:/h/a"), ("s:/.//a/b/", "t:/.//a/b/"), ("t:/", None),
                                 ("s://k/", None), ("s:/a/b/c/", "t:/3/"), ("s:/a/c/b/", "t:/1/c/b/")):
                self.assert_following(table, text, wanted)

    def test_normal_forms_are_redirected(self):
        table = table_of({"S://H/^61/": "HTTP://K:80/~^62/"})
        for text, wanted in (("s://h/a/x", "http://k/~b/x"), ("S://@H:/x/../a/^7e", "http://k/~b/~"), ("s://h/a/..", None),
                             ("s://h/a/.", "http://k/~b/"), ("s://h/^2e/a/b/^2e^2e", "http://k/~b/"), ("s://h/A/", None)):
            self.assert_following(table, text, wanted)
        self.assert_following(table_of({"s://h/": "s://h/x/"}), "s://h", "s://h/x/")

    def test_query_and_fragment_are_kept(self):
        table = table_of({"s:/a/": "s:/b/"})
        for end in ("?q", "#f", "?#", "?a/b#c/d", "?^5E", "#^C3"):
            self.assert_following(table, "s:/a/x" + end, "s:/b/x" + end)
        self.assert_following(table, "s:/a/?^7e#^c3", "s:/b/?~#^C3")

    def test_without_an_authority(self):
        self.assert_following(table_of({"s:/a/": "s:/"}), "s:/a//b", "s:/.//b")
        self.assert_following(table_of({"s:/": "s:/.//"}), "s:/a", "s:/.//a")
        self.assert_following(table_of({"s:/.//": "s:/"}), "s:/.//a", "s:/a")
        self.assert_following(table_of({"s:/.//": "s://h/"}), "s:/.///a", "s://h//a")

    def test_to_itself(self):
        table = table_of({"s:/a/": "s:/a/"})
        self.assert_following(table, "S:/./a/^62", "s:/a/b")
        self.assert_following(table, "s:/b", None)

    def test_no_bases(self):
        table = table_of({"s:/": "s:/b/", "s://h/": "s:/"})
        for text in NO_BASES:
            with self.subTest(text):
                url = parse(text)
                self.assertIs(url in table, False)
                for ask in (table.following, table.final, table.origins):
                    self.assertRaises(NoBase, ask, url)
                found = table.chain(url)
                self.assertRaises(NoBase, next, found)

    def test_all_short_bases(self):
        chance = random.Random(1)
        branches = ("s:/", "s:/a/", "s:/.//", "s:/a//", "s:/.//a/", "s:/a/a/", "s://h/", "s://h//", "s://h/a/", "s:///")
        texts = [front + path for front in ("s:", "s://h", "s://") for path in all_texts("/.a", 4)]
        texts = [text for text in texts if is_url(text) and second.is_base(text)]
        for _ in range(25):
            rules = {branch: chance.choice(branches) for branch in chance.sample(branches, chance.randrange(1, 7))}
            table = table_of(rules)
            for text in chance.sample(texts, 60):
                self.assert_following(table, text, second.following(rules, text))


class Origins(RedirectsCase):
    def assert_origins(self, table, text, wanted):
        found = table.origins(parse(text))
        self.assertIs(type(found), list)
        self.assertEqual([str(url) for url in found], wanted)

    def test_short_ones(self):
        table = table_of({"s:/a/": "s:/x/", "s:/b/": "s:/", "s:/a/c/": "s:/y/", "t:/": "s:/x/"})
        self.assert_origins(table, "s:/x/1?q#f", ["s:/a/1?q#f", "s:/b/x/1?q#f", "t:/1?q#f"])
        self.assert_origins(table, "S:/./^78/1?^71", ["s:/a/1?q", "s:/b/x/1?q", "t:/1?q"])
        self.assert_origins(table, "s:/x/c/1", ["s:/b/x/c/1", "t:/c/1"])
        self.assert_origins(table, "s:/y/1", ["s:/a/c/1", "s:/b/y/1"])
        self.assert_origins(table, "s:/x", ["s:/b/x"])
        self.assert_origins(table, "s:/", ["s:/b/"])
        self.assert_origins(table, "t:/", [])

    def test_ascending_by_text(self):
        table = table_of({f"s:/{name}/": "s:/x/" for name in ("b", "a", "B", "a/b", "c10", "c9")})
        self.assert_origins(table, "s:/x/", ["s:/B/", "s:/a/", "s:/a/b/", "s:/b/", "s:/c10/", "s:/c9/"])

    def test_to_itself(self):
        table = table_of({"s:/a/": "s:/a/", "s:/": "s:/"})
        self.assert_origins(table, "s:/a/b", ["s:/a/b"])
        self.assert_origins(table, "s:/b", ["s:/b"])

    def test_two_rules_that_would_lead_there(self):
        table = table_of({"s:/a/": "s:/x/", "s:/a/b/": "s:/x/b/"})
        self.assert_origins(table, "s:/x/b/1", ["s:/a/b/1"])
        self.assert_origins(table, "s:/x/c/1", ["s:/a/c/1"])

    def test_all_short_bases(self):
        chance = random.Random(2)
        branches = ("s:/", "s:/a/", "s:/.//", "s:/a//", "s:/.//a/", "s:/a/a/", "s:/b/", "s:/a/b/")
        bases = normal_bases("/.ab", 6, ("s:",))
        for _ in range(12):
            rules = {branch: chance.choice(branches) for branch in chance.sample(branches, chance.randrange(1, 6))}
            table = table_of(rules)
            before = {}
            for text in bases:
                before.setdefault(text_of(table.following(parse(text))), []).append(text)
            for text in [text for text in bases if len(text) < 6]:
                found = [str(url) for url in table.origins(parse(text))]
                self.assertEqual([each for each in found if len(each) < 9], sorted(before.get(text, [])))
                for each in found:
                    self.assertEqual(second.following(rules, each), text)


class Telling(RedirectsCase):
    def assert_telling(self, one, other, wanted):
        with self.subTest((one, other)):
            for found in (table_of(one).telling(table_of(other)), table_of(other).telling(table_of(one))):
                self.assertEqual(text_of(found), wanted)
                if found is not None:
                    self.assertIs(type(found), Url)
                    self.assertTrue(found == parse(wanted))

    def test_tables_that_are_alike(self):
        for one, other in (({}, {}), ({"s:/a/": "s:/b/"}, {"S:/^61/": "s:/b/"}),
                           ({"s:/a/": "s:/b/"}, {"s:/a/": "s:/b/", "s:/a/c/": "s:/b/c/"}),
                           ({"s:/": "t:/", "s:/a/b/": "t:/a/b/"}, {"s:/": "t:/", "s:/a/": "t:/a/"}),
                           ({"s:/": "s:/"}, {"s:/": "s:/", "s:/a/": "s:/a/", "s:/a/b/": "s:/a/b/"}),
                           ({"s:/": "t:/"}, {"s:/": "t:/", "s:/.//": "t:/.//"})):
            self.assert_telling(one, other, None)

    def test_tables_that_differ(self):
        self.assert_telling({}, {"s:/a/": "s:/b/"}, "s:/a/")
        self.assert_telling({}, {"s:/a/": "s:/a/"}, "s:/a/")
        self.assert_telling({"s:/a/": "s:/c/"}, {"s:/a/": "s:/b/"}, "s:/a/")
        self.assert_telling({"s:/a/": "s:/b/"}, {"s:/a/": "s:/b/", "s:/a/c/": "s:/c/"}, "s:/a/c/")
        self.assert_telling({"s:/a/": "s:/b/"}, {"s:/a/": "s:/b/", "s:/": "s:/"}, "s:/")
        self.assert_telling({"s:/": "t:/", "s:/a/": "t:/b/"}, {"s:/": "t:/"}, "s:/a/")
        self.assert_telling({"s:/a/": "s:/b/"}, {"s:///a/": "s:/b/"}, "s:/a/")
        self.assert_telling({"s:/.//": "s:/b/"}, {}, "s:/.//")

    def test_the_least_one(self):
        self.assert_telling({"s:/b/": "t:/", "s:/a/": "t:/"}, {}, "s:/a/")
        self.assert_telling({"s:/bbb/": "t:/"}, {"s:/aaaa/": "t:/"}, "s:/bbb/")
        self.assert_telling({"t:/a/": "t:/"}, {"s:/b/": "t:/"}, "s:/b/")
        self.assert_telling({"s:/a/": "t:/", "s:/a/b/": "t:/1/"}, {"s:/a/": "t:/", "s:/a/B/": "t:/1/"}, "s:/a/B/")
        self.assert_telling({"s://h/": "t:/"}, {"s:/a/b/": "t:/"}, "s://h/")

    def test_all_short_bases(self):
        chance = random.Random(3)
        branches = ("s:/", "s:/a/", "s:/.//", "s:/a//", "s:/.//a/", "s:/a/a/", "s:/b/", "s:/a/b/", "s:///", "s:///a/")
        others = ("s:/", "s:/a/", "s:/b/", "s:/a/a/", "s:/a/b/")
        bases = normal_bases("/.ab", 6, ("s:",))
        for _ in range(60):
            one = {branch: chance.choice(others) for branch in chance.sample(branches, chance.randrange(6))}
            other = {**one, **{branch: chance.choice(others) for branch in chance.sample(branches, chance.randrange(3))}}
            for branch in chance.sample(list(other), min(len(other), chance.randrange(2))):
                del other[branch]
            tables = table_of(one), table_of(other)
            told = (text for text in bases
                    if text_of(tables[0].following(parse(text))) != text_of(tables[1].following(parse(text))))
            self.assert_telling(one, other, next(told, None))


if __name__ == "__main__":
    unittest.main()
