"""Chains of redirects, how they end, and papers about them [21]."""

import itertools
import random
import unittest

import second_branches as second
import second_steps
from common import ANY_VALUES
from test_redirects import NO_BASES, rules_of, table_of, text_of
from urlplaces.errors import NoBase
from urlplaces.parsing import parse
from urlplaces.redirects import Redirects, paper, shows

FAR = 10 ** 59
ENDING = (
    ({}, "s:/a", 0), ({"s:/a/": "s:/b/"}, "s:/a/x", 1), ({"s:/a/": "s:/b/", "s:/b/": "s:/c/"}, "s:/a/x?q#f", 2),
    ({"s:/a/": "s:/"}, "s:/a/a/a/a/x", 4), ({"s:/a/": "s:/"}, "S:/^61/./a/x/..", 2),
    ({"s:/a/": "s:/b/b/", "s:/b/": "s:/"}, "s:/a/a/x", 6), ({"s:/a/": "s:/.//", "s:/.//": "s:/"}, "s:/a/a/x", 4))
# Rules, a base, and the paper whose two numbers together are the least.
ENDLESS = (
    ({"s:/a/": "s:/a/"}, "s:/a/x", 0, 1), ({"s:/": "s:/"}, "s:/", 0, 1), ({"s:/a/": "s:/b/", "s:/b/": "s:/a/"}, "s:/a/x", 0, 2),
    ({"s:/a/": "s:/a/b/"}, "s:/a/x", 1, 1), ({"s:/a/": "s:/a/b/"}, "s:/a/b/x", 0, 1), ({"s:/": "s:/a/"}, "s:/", 1, 1),
    ({"s:/a/": "s:/b/", "s:/b/": "s:/c/", "s:/c/": "s:/b/"}, "s:/a/x", 1, 2), ({"s:/": "s:/.//"}, "s:/a", 1, 1),
    ({"s:/a/": "t:/", "t:/": "s:/a/"}, "s:/a/a/a", 1, 2), ({"s:/a/": "t:/", "t:/": "s:/a/a/"}, "s:/a/", 5, 2))


def texts(urls):
    return [str(url) for url in urls]


def second_shows(rules, texts, value):
    """Whether a value is a paper about a chain whose beginning is known, for numbers within this beginning."""
    if type(value) is not tuple or not all(type(number) is int and number >= 0 for number in value[1:]):
        return False
    if len(value) == 2 and value[0] == "final":
        return value[1] < len(texts) and second.following(rules, texts[value[1]]) is None
    if len(value) == 3 and value[0] == "endless" and value[2] > 0:
        return value[1] + value[2] < len(texts) and second.comes_again(rules, texts, *value[1:])
    return False


def counter(digits):
    """A counter with so many binary digits: rules, the base at which it begins, and the number of its redirects."""
    # "0" becomes "1"; "1" goes on to the next digit and comes back as "0".
    rules = {"s:/": "s:/end/"}
    for number in range(digits):
        rules[f"s:/{number}/0/"] = f"s:/back{number}/1/"
        rules[f"s:/{number}/1/"] = f"s:/{number + 1}/"
        rules[f"s:/back{number}/"] = "s:/0/" if number == 0 else f"s:/back{number - 1}/0/"
    rules[f"s:/{digits}/"] = "t:/"
    del rules["s:/"]
    return rules


class ChainsCase(unittest.TestCase):
    def assert_shows(self, table, url, value, wanted):
        kept, rules = repr(value), rules_of(table)
        self.assertIs(shows(table, url, value), wanted, (rules, str(url), value))
        self.assertEqual((repr(value), rules_of(table)), (kept, rules))

    def assert_paper(self, table, url):
        """The paper about the chain, which is shown; its kinds of values."""
        found = paper(table, url)
        self.assertEqual([type(each) for each in (found, *found)], [tuple, str] + [int] * (len(found) - 1))
        self.assert_shows(table, url, found, True)
        return found


class Chains(ChainsCase):
    def test_of_the_interface(self):
        table = table_of({"s://h/a/": "S://h/b/c/", "s://h/b/c/d/": "s://h/a/x/"})
        self.assertEqual(texts(table.chain(parse("s://h/a/d/e"))),
                         ["s://h/a/d/e", "s://h/b/c/d/e", "s://h/a/x/e", "s://h/b/c/x/e"])
        self.assertEqual(str(table.final(parse("s://h/a/d/"))), "s://h/b/c/x/")

    def test_chains_that_end(self):
        for rules, text, many in ENDING:
            with self.subTest((rules, text)):
                table = table_of(rules)
                found = texts(table.chain(parse(text)))
                self.assertEqual(found, second.chain(rules, text, 99))
                self.assertEqual(len(found), many + 1)
                self.assertEqual(str(table.final(parse(text))), found[-1])
                self.assertEqual(paper(table, parse(text)), ("final", many))

    def test_chains_that_do_not_end(self):
        for rules, text, many, more in ENDLESS:
            with self.subTest((rules, text)):
                table = table_of(rules)
                self.assertEqual(texts(itertools.islice(table.chain(parse(text)), 31)), second.chain(rules, text, 30))
                self.assertIsNone(table.final(parse(text)))
                self.assertEqual(paper(table, parse(text)), ("endless", many, more))

    def test_it_is_a_generator(self):
        table = table_of({"s:/a/": "s:/a/b/"})
        first, second_one = table.chain(parse("S:/a/x")), table.chain(parse("s:/a/y"))
        self.assertIs(iter(first), first)
        self.assertEqual([str(next(first)), str(next(second_one)), str(next(first))], ["s:/a/x", "s:/a/y", "s:/a/b/x"])
        first.close()
        self.assertEqual(str(next(second_one)), "s:/a/b/y")

    def test_no_base_when_its_first_item_is_taken(self):
        for table in (Redirects(), table_of({"s:/": "s:/a/"})):
            for text in NO_BASES:
                found = table.chain(parse(text))
                self.assertRaises(NoBase, next, found)

    def test_they_begin_with_the_normal_form(self):
        for text in ("S://H", "s:/./^61", "http://h:80?^71#^c3"):
            self.assertEqual(texts(Redirects().chain(parse(text))), [second_steps.normal(text)])

    def test_each_url_is_what_the_one_before_leads_to(self):
        chance = random.Random(1)
        for _ in range(60):
            rules, text = rules_by_chance(chance), base_by_chance(chance)
            table = table_of(rules)
            found = list(itertools.islice(table.chain(parse(text)), 40))
            self.assertEqual(texts(found), second.chain(rules, text, 39))
            for one, other in zip(found, found[1:]):
                self.assertTrue(table.following(one) == other)
                self.assertTrue(one in table)
            if len(found) < 40:
                self.assertIsNone(table.following(found[-1]))
                self.assertTrue(table.final(parse(text)) == found[-1])


def rules_by_chance(chance):
    folders = ("", "a/", "b/", "a/b/", "b/a/", "a/a/", "b/b/", "a/b/a/", "/", "a//")
    branches = [second_steps.normal(front + folder) for front in ("s:/", "s:/", "s://h/") for folder in folders
                if front + folder != "s://"]
    found = {}
    for _ in range(chance.randrange(1, 7)):
        found[chance.choice(branches)] = chance.choice(branches)
    return found


def base_by_chance(chance):
    text = chance.choice(("s:/", "s:/", "s://h/")) + "".join([chance.choice(("a/", "b/", "a/", "b/", "c/"))
                                                             for _ in range(chance.randrange(7))])
    return text + chance.choice(("", "x", "a", "?q#f"))


class Papers(ChainsCase):
    def test_all_papers_with_small_numbers(self):
        chance = random.Random(2)
        words = {"final": 0, "endless": 0}
        for rules, text in [(row[0], row[1]) for row in ENDING + ENDLESS] + [
                (rules_by_chance(chance), base_by_chance(chance)) for _ in range(150)]:
            table, url = table_of(rules), parse(text)
            chain = second.chain(rules, text, 24)
            found = self.assert_paper(table, url)
            words[found[0]] += 1
            self.assertTrue(sum(found[1:]) >= 24 or second_shows(rules, chain, found), (rules, text, found))
            endless = second.endless_papers(rules, chain)
            if found[0] == "endless":
                self.assertEqual(sum(found[1:]), min([sum(each) for each in endless], default=sum(found[1:])))
            else:
                self.assertEqual(endless, [])
            for many in range(10):
                self.assert_shows(table, url, ("final", many), second_shows(rules, chain, ("final", many)))
                for more in range(10):
                    value = ("endless", many, more)
                    self.assert_shows(table, url, value, second_shows(rules, chain, value))
        self.assertGreater(min(words.values()), 30)

    def test_papers_that_are_spoilt(self):
        for rules, text, many in ENDING:
            table, url = table_of(rules), parse(text)
            for number in (*range(many), many + 1, many + 2, -1, -many - 1, FAR, -FAR, 10 ** 60 - 1):
                self.assert_shows(table, url, ("final", number), False)
            for value in (("endless", many), ("endless", 0, 1), ("endless", many, 1), ("endless", many, 0), ("final", many, 1),
                          ("endless", FAR, FAR), ["final", many], ("Final", many), (many, "final"), ("final", (many,)),
                          ("final", str(many)), ("final", None), ("final",), ("final", many, many), (("final", many),)):
                self.assert_shows(table, url, value, False)
        for rules, text, many, more in ENDLESS:
            table, url = table_of(rules), parse(text)
            for value in (("endless", many, 0), ("endless", many, -more), ("endless", -1, more), ("endless", -1, more + 1),
                          ("endless", many), ("endless", many, more, more), ("final", many), ("final", many + more),
                          ("final", FAR), ["endless", many, more], ("endless", str(many), more), ("endless", many, [more]),
                          ("endless", None, more), ("final", many, more), ("endless", (many, more)), (many, more, "endless")):
                self.assert_shows(table, url, value, False)

    def test_booleans_are_no_numbers(self):
        table = table_of({"s:/a/": "s:/b/", "s:/c/": "s:/c/"})
        for text, value in (("s:/a/", ("final", True)), ("s:/b", ("final", False)), ("s:/c/", ("endless", False, 1)),
                            ("s:/c/", ("endless", 0, True)), ("s:/c/", ("endless", True, True))):
            whole = (value[0], *map(int, value[1:]))
            self.assert_shows(table, parse(text), value, False)
            self.assert_shows(table, parse(text), whole, True)

    def test_any_values(self):
        for rules, text in ((rules, text) for rules, text, *_ in ENDING + ENDLESS):
            table, url = table_of(rules), parse(text)
            for value in ANY_VALUES:
                self.assert_shows(table, url, value, False)
                self.assert_shows(table, url, ("final", value if type(value) is not int else None), False)
                self.assert_shows(table, url, ("endless", 0, value if type(value) is not int else None), False)
                self.assert_shows(table, url, (value, 1), False)
                self.assert_shows(table, url, (value, 1, 1), False)

    def test_what_is_no_base(self):
        table = table_of({"s:/a/": "s:/b/"})
        for text in NO_BASES:
            self.assertRaises(NoBase, paper, table, parse(text))
            for value in (("final", 0), ("endless", 0, 1), None):
                self.assert_shows(table, parse(text), value, False)
        self.assertEqual(paper(url=parse("s:/a/"), redirects=table), ("final", 1))
        self.assertIs(shows(value=("final", 1), url=parse("s:/a/"), redirects=table), True)


class FarNumbers(ChainsCase):
    def test_numbers_of_some_hundreds(self):
        for rules, text, many, more in ENDLESS:
            table, url = table_of(rules), parse(text)
            chain = second.chain(rules, text, 260)
            for start, steps in itertools.product((0, 1, 2, 7, 100, 101, 102, 103), (1, 2, 3, 4, 60, 97, 99, 100, 150)):
                value = ("endless", start, steps)
                self.assert_shows(table, url, value, second_shows(rules, chain, value))

    def test_long_periods_and_numbers_of_some_hundreds(self):
        rules = {"s:/a/": "s:/b/b/", "s:/b/": "s:/", "s:/c/": "s:/a/c/x/", "s:/x/": "s:/c/"}
        chance = random.Random(3)
        for text in ("s:/a/c/", "s:/b/b/b/a/c/", "s:/a/b/a/b/c/x/y", "s:/x/x/x/", "s:/a/a/a/"):
            table, url, chain = table_of(rules), parse(text), second.chain(rules, text, 200)
            for _ in range(300):
                value = ("endless", chance.randrange(100), chance.randrange(1, 100))
                self.assert_shows(table, url, value, second_shows(rules, chain, value))

    def test_sixty_digits(self):
        url = parse("s:/a/x")
        cycle = table_of({"s:/a/": "s:/b/", "s:/b/": "s:/c/", "s:/c/": "s:/a/"})
        growing = table_of({"s:/a/": "s:/b/a/", "s:/b/": "s:/c/", "s:/c/": "s:/"})
        for many, more, wanted in ((FAR, 3, True), (0, 3 * FAR, True), (FAR, 3 * FAR, True), (FAR + 1, 3 * FAR, True), (FAR, 1, False),
                                   (FAR, FAR, False), (0, 3 * FAR + 1, False), (10 ** 60 - 1, 10 ** 60 - 1, True),
                                   (10 ** 60 - 1, 10 ** 60 - 2, False), (-FAR, 3, False), (0, -3 * FAR, False), (FAR, 0, False)):
            self.assert_shows(cycle, url, ("endless", many, more), wanted)
        # At each third place, from the first one on, the depth is that of the base, and greater at the others.
        for many, more, wanted in ((0, 3, True), (FAR - FAR % 3, 3, True), (FAR - FAR % 3, 3 * FAR, True), (1, 3, False),
                                   (FAR - FAR % 3 + 1, 3, False), (FAR - FAR % 3 + 2, 3, False), (FAR - FAR % 3, 1, False)):
            self.assert_shows(growing, url, ("endless", many, more), wanted)

    def test_depths_that_grow(self):
        table = table_of({"s:/a/": "s:/b/b/b/a/", "s:/b/": "s:/c/", "s:/c/b/": "s:/", "s:/c/a/": "s:/a/d/d/"})
        url = parse("s:/a/x")
        known = self.assert_paper(table, url)
        self.assertEqual(known[0], "endless")
        _, first, period = known
        chain = second.chain(rules_of(table), "s:/a/x", first + 3 * period)
        for many in range(first + period):
            for more in (period, 2 * period):
                near = many + more < len(chain) and second.comes_again(rules_of(table), chain, many, more)
                self.assert_shows(table, url, ("endless", many, more), near)
                if many >= first:
                    self.assert_shows(table, url, ("endless", many + period * FAR, more), near)
                    self.assert_shows(table, url, ("endless", many, more + period * FAR), near)
                    self.assert_shows(table, url, ("endless", many + period * FAR, more + 1), False)


class LongChains(ChainsCase):
    def test_a_thousand_segments(self):
        rules = {"s:/a/": "s:/b/", **{f"s:/{one}/": f"s:/{other}/" for one, other in zip("bcdefghi", "cdefghij")}, "s:/j/": "s:/"}
        table, url = table_of(rules), parse("s:/" + "a/" * 900 + "x")
        self.assertEqual(str(table.final(url)), "s:/x")
        self.assertEqual(self.assert_paper(table, url), ("final", 9000))
        self.assert_shows(table, url, ("final", 8999), False)
        self.assert_shows(table, url, ("endless", 0, 9000), False)
        found = list(table.chain(url))
        self.assertEqual((len(found), str(found[-1])), (9001, "s:/x"))

    def test_a_counter(self):
        rules = counter(10)
        table, url = table_of(rules), parse("s:/0/" + "0/" * 10)
        found = self.assert_paper(table, url)
        self.assertEqual(found[0], "final")
        self.assertEqual(found[1], len(list(table.chain(url))) - 1)
        self.assertGreater(found[1], 3000)
        self.assertEqual(str(table.final(url)), "t:/")
        for value in (("final", found[1] - 1), ("final", found[1] + 1), ("final", FAR), ("endless", 0, FAR)):
            self.assert_shows(table, url, value, False)

    def test_a_counter_that_begins_again(self):
        rules = {**counter(9), "s:/9/": "s:/0/" + "0/" * 9}
        table, url = table_of(rules), parse("s:/0/" + "0/" * 9)
        _, many, more = self.assert_paper(table, url)
        self.assertGreater(more, 1500)
        self.assertIsNone(table.final(url))
        for start, steps, wanted in ((many, more * FAR, True), (many + more, more, True), (many + FAR * more, 5 * more, True),
                                     (many, more + 1, False), (many, 2 * more - 1, False), (many + 1, more, False),
                                     (many + FAR * more + 1, more, False), (many + FAR * more, 5 * more + 1, False)):
            self.assert_shows(table, url, ("endless", start, steps), wanted)

    def test_wide_rules(self):
        deep = "a/" * 1000
        table = table_of({f"s:/{deep}": f"s:/b/{deep}", f"s:/b/{deep}": "s:/c/", "s:/c/": f"s:/{deep}c/"})
        url = parse(f"s:/{deep}x")
        self.assertEqual(self.assert_paper(table, url)[0], "endless")
        self.assertIsNone(table.final(url))
        self.assertEqual(text_of(table.following(url)), f"s:/b/{deep}x")

    def test_paths_that_become_long(self):
        table = table_of({"s:/a/": "s:/b/b/b/", "s:/b/": "s:/c/c/c/", "s:/c/": "s:/d/d/d/", "s:/d/": "s:/"})
        url = parse("s:/" + "a/" * 80)
        self.assertEqual(str(table.final(url)), "s:/")
        self.assertEqual(self.assert_paper(table, url), ("final", 80 * (1 + 3 + 9 + 27)))


if __name__ == "__main__":
    unittest.main()
