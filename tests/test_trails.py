"""Links and trails between the pages of a site, and papers about them [19]."""

import itertools
import random
import unittest

import second_branches as second
from common import ANY_VALUES
from test_sites import rows_of, site_of, texts
from urlplaces.errors import NoRoute
from urlplaces.parsing import parse
from urlplaces.parts import Url
from urlplaces.sites import Site, shows

# a -> b (1, 3), c (2); b -> c (0), a (1); c -> d (1); d -> d (0); e -> a (0); f alone.
ROWS = {
    "s:/a": ["x", "b#top", "/c", "b"], "s:/b": ["./x/../c#", "a", "b?q"], "s:/c": ["//h/d", "s:/d"], "s:/d": [""],
    "s:/e": ["./a"], "s:/f": ["A", "f?", "s:/f/", "t:/a"]}
TRAILS = {
    ("a", "a"): [], ("a", "b"): [1], ("a", "c"): [2], ("a", "d"): [2, 1], ("a", "e"): None, ("a", "f"): None,
    ("b", "a"): [1], ("b", "b"): [], ("b", "c"): [0], ("b", "d"): [0, 1], ("c", "d"): [1], ("c", "a"): None,
    ("d", "d"): [], ("d", "c"): None, ("e", "d"): [0, 2, 1], ("e", "b"): [0, 1], ("e", "e"): [], ("f", "a"): None,
    ("f", "f"): []}


def url_of(name):
    return parse("s:/" + name)


def second_shows(rows, start, goal, value):
    """Whether a value is a paper, by the words of [19]."""
    if start not in rows or goal not in rows or type(value) is not tuple or len(value) != 2:
        return False
    word, told = value
    if type(told) is not list or word not in ("trail", "closed"):
        return False
    if word == "trail":
        here = start
        for index in told:
            if type(index) is not int or index not in second.links(rows, here):
                return False
            here = second.links(rows, here)[index]
        return here == goal
    if any(type(page) is not Url or str(page) not in rows for page in told):
        return False
    pages = texts(told)
    behind = [each for page in pages for each in second.links(rows, page).values()]
    return (all(one < other for one, other in itertools.pairwise(pages)) and start in pages and goal not in pages
            and all(each in pages for each in behind))


class TrailsCase(unittest.TestCase):
    def assert_shows(self, site, start, goal, value, wanted):
        kept, before = repr(value), rows_of(site)
        self.assertIs(shows(site, parse(start), parse(goal), value), wanted, (start, goal, value))
        self.assertEqual((repr(value), rows_of(site)), (kept, before))

    def assert_paper(self, site, start, goal):
        """The paper shows what is so."""
        rows = rows_of(site)
        found = site.paper(parse(start), parse(goal))
        trail = site.shortest(parse(start), parse(goal))
        self.assertEqual([type(each) for each in (found, *found)], [tuple, str, list])
        self.assertEqual(found[0], "closed" if trail is None else "trail")
        self.assertTrue(second_shows(rows, start, goal, found))
        self.assert_shows(site, start, goal, found, True)


class Shortest(TrailsCase):
    def test_each_row(self):
        site = site_of(ROWS)
        for (start, goal), wanted in TRAILS.items():
            with self.subTest((start, goal)):
                self.assertEqual(site.shortest(url_of(start), url_of(goal)), wanted)
        self.assertEqual(site.shortest(goal=url_of("d"), start=url_of("a")), [2, 1])
        self.assertEqual(site.paper(goal=url_of("d"), start=url_of("d")), ("trail", []))

    def test_the_first_one_in_the_order_of_lists(self):
        rows = {"s:/a": ["c", "b", "b"], "s:/b": ["d"], "s:/c": ["x", "x", "d", "d"], "s:/d": []}
        self.assertEqual(site_of(rows).shortest(url_of("a"), url_of("d")), [0, 2])
        rows = {"s:/a": ["x", "b", "c"], "s:/b": ["y", "y", "d"], "s:/c": ["d"], "s:/d": ["e", "e"], "s:/e": []}
        self.assertEqual(site_of(rows).shortest(url_of("a"), url_of("e")), [1, 2, 0])
        rows = {"s:/a": ["z", "y"], "s:/y": ["q"], "s:/z": ["x", "q"], "s:/q": [""]}
        self.assertEqual(site_of(rows).shortest(url_of("a"), url_of("q")), [0, 1])

    def test_a_shorter_one_before_the_first_one(self):
        rows = {"s:/a": ["b", "c"], "s:/b": ["c"], "s:/c": []}
        self.assertEqual(site_of(rows).shortest(url_of("a"), url_of("c")), [1])

    def test_queries_and_fragments(self):
        rows = {"s:/a": ["#f", "a?q", "b#f"], "s:/a?q": ["", "#x", "?", "a"], "s:/b": ["a?q#f"]}
        site = site_of(rows)
        self.assertEqual(site.shortest(parse("s:/a"), parse("s:/a?q")), [1])
        self.assertEqual(site.shortest(parse("s:/a?q"), parse("s:/a")), [3])
        self.assertEqual(site.shortest(parse("s:/b"), parse("s:/a")), [0, 3])
        self.assertEqual(site.shortest(parse("s:/a"), parse("s:/b")), [2])

    def test_only_the_same_text_is_a_link(self):
        rows = {"s://h/a": ["//H/b", "S:/b", "b?", "^62", "//h:/b", "t://h/b"], "s://h/b": ["//h"], "s://h/": []}
        site = site_of(rows)
        self.assertIsNone(site.shortest(parse("s://h/a"), parse("s://h/b")))
        self.assertIsNone(site.shortest(parse("s://h/b"), parse("s://h/")))

    def test_no_pages_of_the_site(self):
        site = site_of(ROWS)
        page, one, other = url_of("a"), url_of("x"), url_of("y")
        for ask in (site.shortest, site.paper):
            for start, goal, wrong in ((one, page, one), (page, one, one), (one, other, one), (other, one, other),
                                       (parse("s:/a#f"), page, parse("s:/a#f")), (page, parse(""), parse(""))):
                with self.assertRaises(NoRoute) as caught:
                    ask(start, goal)
                self.assertTrue(caught.exception.url == wrong)
        self.assertRaises(NoRoute, Site().paper, page, page)

    def test_each_list_is_new(self):
        site = site_of(ROWS)
        site.shortest(url_of("a"), url_of("d")).append(0)
        site.paper(url_of("a"), url_of("d"))[1].clear()
        site.paper(url_of("d"), url_of("a"))[1].clear()
        site.shortest(url_of("a"), url_of("a")).append(1)
        self.assertEqual(site.shortest(url_of("a"), url_of("d")), [2, 1])
        self.assertEqual(site.paper(url_of("d"), url_of("a")), ("closed", [url_of("d")]))
        self.assertEqual(site.shortest(url_of("a"), url_of("a")), [])


class Papers(TrailsCase):
    def test_of_each_row(self):
        site = site_of(ROWS)
        for start, goal in itertools.product(ROWS, repeat=2):
            self.assert_paper(site, start, goal)

    def test_trails_that_are_not_the_shortest(self):
        site = site_of(ROWS)
        for trail, goal, wanted in (([3], "b", True), ([1, 0], "c", True), ([1, 1, 1, 1], "a", True), ([2, 1, 0, 0], "d", True),
                                    ([2, 1], "c", False), ([2], "d", False), ([], "b", False), ([], "a", True),
                                    ([0], "a", False), ([0], "b", False), ([4], "b", False), ([-1], "b", False),
                                    ([-3], "b", False), ([1, 2], "b", False), ([2, 0], "d", False), ([2, 1, 1], "d", False),
                                    ([True], "b", False), ([1, True], "a", False), (["1"], "b", False), ([None], "b", False),
                                    ([[1]], "b", False), ([(1,)], "b", False), ([{}], "b", False), ([url_of("b")], "b", False),
                                    ([10 ** 59], "b", False), ([1, -10 ** 59], "b", False)):
            self.assertIs(second_shows(ROWS, "s:/a", "s:/" + goal, ("trail", trail)), wanted)
            self.assert_shows(site, "s:/a", "s:/" + goal, ("trail", trail), wanted)

    def test_closed_lists(self):
        site = site_of(ROWS)
        for names, start, goal, wanted in (
                ("abcd", "a", "e", True), ("abcdf", "a", "e", True), ("d", "d", "a", True), ("cd", "c", "a", True),
                ("cd", "d", "a", True), ("f", "f", "a", True), ("df", "f", "a", True), ("abcdef", "a", "f", False),
                ("abcd", "a", "d", False), ("abc", "a", "d", False), ("abd", "a", "e", False), ("a", "a", "e", False),
                ("d", "c", "a", False), ("", "a", "e", False), ("abcde", "a", "e", False), ("dcba", "a", "e", False),
                ("abccd", "a", "e", False), ("acbd", "a", "e", False), ("abcdx", "a", "e", False), ("dd", "d", "a", False),
                ("Ad", "d", "a", False), ("d", "d", "d", False)):
            value = ("closed", [url_of(name) for name in names])
            self.assertIs(second_shows(ROWS, "s:/" + start, "s:/" + goal, value), wanted, (names, start, goal))
            self.assert_shows(site, "s:/" + start, "s:/" + goal, value, wanted)

    def test_closed_lists_of_any_values(self):
        site = site_of(ROWS)
        for value in (*ANY_VALUES, "s:/d", "s:/f"):
            for rows in ([url_of("d"), value], [value, url_of("d")], [value]):
                self.assert_shows(site, "s:/d", "s:/a", ("closed", rows), False)

    def test_any_values(self):
        site = site_of(ROWS)
        trail, closed = [url_of("d")], [1]
        for value in (*ANY_VALUES, (), ("trail",), ("trail", [], []), ["trail", []], ("trail", ()), ("Trail", []), (None, []),
                      ([], "trail"), ("trail", closed), ("closed", tuple(trail)), ("closed", {}), ("open", trail), trail,
                      (url_of("a"), []), ((), []), ("closed", trail, 0), ("", []), (True, [])):
            for start, goal in (("s:/d", "s:/a"), ("s:/e", "s:/d")):
                self.assert_shows(site, start, goal, value, False)

    def test_of_what_is_no_page(self):
        site = site_of(ROWS)
        for value in (("trail", []), ("closed", [url_of("x")]), ("closed", [url_of("d")]), None):
            for start, goal in (("s:/x", "s:/x"), ("s:/d", "s:/x"), ("s:/x", "s:/d"), ("s:/d#f", "s:/d"), ("", "")):
                self.assert_shows(site, start, goal, value, False)
        self.assertIs(shows(value=("trail", []), goal=url_of("a"), start=url_of("a"), site=site), True)

    def test_no_papers_of_both_words(self):
        site = site_of(ROWS)
        names = sorted(ROWS)
        lists = [list(row) for many in range(4) for row in itertools.product(range(4), repeat=many)]
        closed = [[parse(name) for name in row] for many in range(7) for row in itertools.combinations(names, many)]
        for start, goal in itertools.product(names, repeat=2):
            found = set()
            for word, rows in (("trail", lists), ("closed", closed)):
                for told in rows:
                    is_paper = shows(site, parse(start), parse(goal), (word, told))
                    self.assertIs(is_paper, second_shows(ROWS, start, goal, (word, told)))
                    found |= {word} if is_paper else set()
            self.assertEqual(len(found), 1)


class ByChance(TrailsCase):
    def test_small_sites(self):
        chance = random.Random(1)
        names = ("a", "b", "c", "d/", "d/e", "f?q")
        for _ in range(60):
            site = Site()
            for name in chance.sample(names, chance.randrange(1, 7)):
                references = [chance.choice(("/a", "/b#", "c", "/c", "/d/", "e", "/d/e", "/f?q", "", "x"))
                              for _ in range(chance.randrange(4))]
                site.put(url_of(name), [parse(text) for text in references])
            rows = rows_of(site)
            for start, goal in itertools.product(rows, repeat=2):
                wanted = next(second.trails(rows, start, goal, len(rows)), None)
                self.assertEqual(site.shortest(parse(start), parse(goal)), wanted)
                self.assert_paper(site, start, goal)

    def test_a_hundred_pages(self):
        rows = {f"s:/{number}": [f"{(number * 7 + 1) % 100}", f"{(number * 3) % 100}", "x"] * 3 for number in range(100)}
        site = site_of(rows)
        for start, goal in itertools.product(list(rows)[::3], list(rows)[::3]):
            start, goal = parse(start), parse(goal)
            self.assertIs(shows(site, start, goal, site.paper(start, goal)), True)

    def test_a_long_trail(self):
        rows = {f"s:/{number}": ["x"] * 5 + [f"{number + 1}"] for number in range(100)}
        rows["s:/99"] = ["0"]
        site = site_of(rows)
        self.assertEqual(site.shortest(parse("s:/0"), parse("s:/99")), [5] * 99)
        around = ([5] * 99 + [0]) * 30
        self.assert_shows(site, "s:/0", "s:/0", ("trail", around), True)
        self.assert_shows(site, "s:/0", "s:/0", ("trail", around + [0]), False)


if __name__ == "__main__":
    unittest.main()
