"""Sites: pages, images, branches that are moved, and what is undone [17, 18]."""

import random
import unittest

import second_branches as second
import second_reading
from common import ANY_VALUES, all_texts
from urlplaces.bases import relative
from urlplaces.errors import NoBase, NoPlace, NoRoute, Taken, TooMany
from urlplaces.parsing import is_url, parse
from urlplaces.parts import Url
from urlplaces.sites import Site

PAGES = ("s:/", "s:/a", "s:/a?", "s:/a?q=/./", "s:/.//", "s:/.//a", "s://h/", "s://h//", "s://h/a/b", "S://U@H:0/^2e/",
         "s:///", "s:////", "s://h/a;b?", "s:/a:b", "s:/.//.a/..b/...")
NO_PAGES = ("", "a", "/a", "//h/a", "s:", "s:a", "s:?q", "s://h", "s://h?q", "s:/#", "s:/a#f", "s:/.", "s:/..", "s:/./a",
            "s://h/.//a", "s:/.//..", "s://h/a/../b", "s://h/a/.", "s:/.//./a", "s://", "s:/./", "s:/..//a")
BRANCHES = ("s:/", "s:/a/", "s:/.//", "s:/.//a/", "s:/a//", "s://h/", "s://h//", "s://h/a/", "S://U@H:0/^2e/", "s:///")
NO_BRANCHES = (*NO_PAGES, "s:/a", "s:/?", "s://h/?q", "s://h/a/b", "s://h/a/?/", "s://h/a^2F")


def site_of(rows):
    """The site with these pages and references, a dict of lists of texts by texts."""
    site = Site()
    for page, references in rows.items():
        site.put(parse(page), [parse(text) for text in references])
    return site


def rows_of(site):
    """The pages of a site with their references, as texts."""
    return {str(page): [str(url) for url in site.references(page)] for page in site.pages()}


def texts(urls):
    return [str(url) for url in urls]


class SitesCase(unittest.TestCase):
    def assert_rows(self, site, rows):
        self.assertEqual(rows_of(site), rows)
        self.assertEqual(texts(site.pages()), sorted(rows))
        self.assertEqual(len(site), len(rows))
        self.assertTrue(site == site_of(rows))

    def assert_move(self, site, branch, other):
        """Moves a branch: all that a move promises; the changes as tuples of texts and indices."""
        before = {page: texts(site.targets(parse(page))) for page in rows_of(site)}
        old = rows_of(site)
        changes = site.move(parse(branch), parse(other))
        new = rows_of(site)
        self.assertEqual(list(new), sorted(second.image(page, branch, other) for page in old))
        wanted = []
        for page, references in old.items():
            moved = second.image(page, branch, other)
            self.assertEqual(len(new[moved]), len(references))
            for index, reference in enumerate(references):
                goal = second.image(before[page][index], branch, other)
                self.assertEqual(second.target(moved, new[moved][index]), goal)
                if second.target(moved, reference) == goal:
                    self.assertEqual(new[moved][index], reference)
                else:
                    self.assertEqual(new[moved][index], str(relative(parse(moved), parse(goal))))
                    wanted.append((moved, index))
        found = [(str(page), index) for page, index in changes]
        self.assertEqual(found, sorted(wanted))
        self.assertEqual({type(each) for each in changes} - {tuple}, set())
        self.assertEqual({(type(page), type(index)) for page, index in changes} - {(Url, int)}, set())
        return found


class Examples(SitesCase):
    def test_of_the_interface(self):
        site = Site()
        self.assertIsNone(site.put(parse("s://h/a/x"), [parse("y"), parse("../b"), parse("//z")]))
        site.put(parse("s://h/a/y"), [parse("/a/x#t")])
        self.assertEqual(str(site.targets(parse("s://h/a/x"))[1]), "s://h/b")
        changes = site.move(parse("s://h/a/"), parse("s://h/c/d/"))
        self.assertEqual([(str(page), index) for page, index in changes], [("s://h/c/d/x", 1), ("s://h/c/d/y", 0)])
        self.assertEqual(str(site.references(parse("s://h/c/d/x"))[1]), "/b")
        self.assertEqual(str(site.references(parse("s://h/c/d/y"))[0]), "x#t")
        self.assertEqual((Site.MOST, site.MOST), (100, 100))

    def test_arguments_by_name(self):
        site = Site()
        site.put(references=[parse("b")], page=parse("s:/a"))
        self.assertEqual(texts(site.references(page=parse("s:/a"))), ["b"])
        self.assertEqual(texts(site.targets(page=parse("s:/a"))), ["s:/b"])
        image = Site.image(other=parse("s:/c/"), branch=parse("s:/"), url=parse("s:/a"))
        self.assertEqual(str(image), "s:/c/a")
        self.assertEqual(site.move(other=parse("s:/c/"), branch=parse("s:/")), [])
        self.assert_rows(site, {"s:/c/a": ["b"]})


class Pages(SitesCase):
    def test_what_is_a_page(self):
        for text in PAGES:
            with self.subTest(text):
                self.assertTrue(second.is_page(text))
                self.assert_rows(site_of({text: [""]}), {text: [""]})

    def test_what_is_none(self):
        site = site_of({"s:/x": ["y"]})
        for text in NO_PAGES:
            with self.subTest(text):
                self.assertFalse(second.is_page(text))
                with self.assertRaises(NoBase):
                    site.put(parse(text), [])
        self.assert_rows(site, {"s:/x": ["y"]})
        site.undo()
        self.assertEqual(len(site), 0)

    def test_all_short_texts(self):
        for front in ("s:", "s://h", "", "//h"):
            for rest in all_texts("/.a?#", 4):
                if is_url(front + rest):
                    try:
                        Site().put(parse(front + rest), [])
                        found = True
                    except NoBase:
                        found = False
                    self.assertEqual(found, second.is_page(front + rest), front + rest)

    def test_put_again(self):
        site = site_of({"s:/b": ["x"], "s:/a": []})
        site.put(parse("s:/b"), [parse("y"), parse("y")])
        self.assert_rows(site, {"s:/a": [], "s:/b": ["y", "y"]})
        site.put(parse("s:/B"), [])
        self.assert_rows(site, {"s:/B": [], "s:/a": [], "s:/b": ["y", "y"]})

    def test_what_is_no_page_of_the_site(self):
        site = site_of({"s:/a": ["b"], "s:/a?q": []})
        for text in ("s:/b", "s:/a#f", "S:/a", "s:/./a", "s:/a?", "", "a", "s:/^61"):
            url = parse(text)
            for ask in (site.references, site.targets):
                with self.assertRaises(NoRoute) as caught:
                    ask(url)
                self.assertTrue(caught.exception.url == url)

    def test_a_hundred_pages(self):
        rows = {f"s:/{number}": [f"{number + 1}"] for number in range(100)}
        site = site_of(rows)
        self.assert_rows(site, rows)
        with self.assertRaises(TooMany) as caught:
            site.put(parse("s:/100"), [])
        self.assertEqual(caught.exception.most, 100)
        self.assertRaises(NoBase, site.put, parse("s:/./a"), [])
        site.put(parse("s:/7"), [parse("x")])
        self.assert_rows(site, {**rows, "s:/7": ["x"]})
        site.undo()
        self.assert_rows(site, rows)
        site.undo()
        site.put(parse("s:/100"), [])
        self.assertEqual((len(site), texts(site.pages())[3]), (100, "s:/100"))
        self.assertRaises(TooMany, site.put, parse("s:/99"), [])

    def test_lists_that_are_changed_behind_a_call(self):
        site, page, references = Site(), parse("s:/a"), [parse("b")]
        site.put(page, references)
        references.append(parse("c"))
        site.pages().append(parse("s:/z"))
        site.references(page).clear()
        site.targets(page)[0] = None
        site.move(parse("s:/x/"), parse("s:/y/")).append(None)
        self.assert_rows(site, {"s:/a": ["b"]})
        references[0] = parse("d")
        site.put(page, references)
        references.clear()
        site.undo()
        self.assert_rows(site, {"s:/a": ["b"]})

    def test_targets(self):
        site = site_of({"s://h/a/b?q": ["", "#f", "?x", "..", "/", "c/./d", "//k", "t:u", "t:/a/../b", "s://h/a/b?q"]})
        found = site.targets(parse("s://h/a/b?q"))
        self.assertEqual(texts(found), ["s://h/a/b?q", "s://h/a/b?q#f", "s://h/a/b?x", "s://h/", "s://h/", "s://h/a/c/d",
                                        "s://k", "t:u", "t:/b", "s://h/a/b?q"])
        self.assertEqual(site.targets(parse("s://h/a/b?q")), found)

    def test_two_sites_share_nothing(self):
        one, other = Site(), Site()
        one.put(parse("s:/a"), [])
        self.assertEqual((len(one), len(other)), (1, 0))
        self.assertRaises(NoPlace, other.undo)
        other.put(parse("s:/a"), [parse("x")])
        one.undo()
        self.assert_rows(other, {"s:/a": ["x"]})


class Equality(SitesCase):
    def test_the_same_pages_with_the_same_references(self):
        rows = {"s:/a": ["b", "c"], "s:/b": []}
        one, other = site_of(rows), site_of(dict(reversed(rows.items())))
        self.assertTrue(one == other)
        self.assertFalse(one != other)
        other.put(parse("s:/c"), [])
        self.assertFalse(one == other)
        other.undo()
        self.assertTrue(one == other)
        self.assertTrue(Site() == Site())

    def test_what_was_before_does_not_count(self):
        one, other = site_of({"s:/a": ["b"]}), site_of({"s:/x/a": ["y"]})
        other.put(parse("s:/x/a"), [parse("b")])
        other.move(parse("s:/x/"), parse("s:/"))
        self.assertTrue(one == other)

    def test_other_references(self):
        rows = {"s:/a": ["b", "c"]}
        for references in (["c", "b"], ["b"], ["b", "c", "c"], ["b", "./c"], []):
            self.assertFalse(site_of(rows) == site_of({"s:/a": references}))
        self.assertFalse(site_of(rows) == site_of({"s:/A": ["b", "c"]}))
        self.assertFalse(site_of(rows) == site_of({}))

    def test_nothing_else(self):
        for value in (*ANY_VALUES, {"s:/a": ["b"]}):
            for site in (Site(), site_of({"s:/a": ["b"]})):
                self.assertIs(site == value, False)
                self.assertIs(site != value, True)


class Image(SitesCase):
    def assert_image(self, text, branch, other, wanted):
        with self.subTest((text, branch, other)):
            found = Site.image(parse(text), parse(branch), parse(other))
            self.assertIs(type(found), Url)
            self.assertEqual(str(found), wanted)
            self.assertTrue(found == parse(wanted))
            self.assertEqual(second.image(text, branch, other), wanted)

    def test_in_a_branch(self):
        self.assert_image("s://h/a/b", "s://h/a/", "s://h/c/", "s://h/c/b")
        self.assert_image("s://h/a/", "s://h/a/", "s://h/c/", "s://h/c/")
        self.assert_image("s://h/a/b/c?q#f", "s://h/a/", "t://k/", "t://k/b/c?q#f")
        self.assert_image("s://h/a/b/?#", "s://h/a/", "t://u@k:1/x/y/", "t://u@k:1/x/y/b/?#")
        self.assert_image("s://h/a/b", "s://h/", "s://h/c/d/", "s://h/c/d/a/b")
        self.assert_image("s://h/", "s://h/", "s://h/c/", "s://h/c/")
        self.assert_image("s://h/a/b", "s://h/a/", "s://h/a/b/", "s://h/a/b/b")

    def test_beside_and_above_a_branch(self):
        for text in ("s://h/a", "s://h/", "s://h", "s://h/ab/", "s://h/b/a/c", "S://h/a/b", "s://H/a/b", "s://h:/a/b",
                     "s://@h/a/b", "s:/a/b", "s:///a/b", "//h/a/b", "/a/b", "s:a/b", "s://h/A/b", "s://h//a/b", "s:",
                     "s://h/^61/b", "", "s://h/a/..", "s://h/a/b/../..", "s://h/./a", "s://h/a#/b", "s://h/a?/a/b"):
            self.assert_image(text, "s://h/a/", "t://k/x/", text)

    def test_without_an_authority(self):
        self.assert_image("s:/a/b", "s:/a/", "s:/", "s:/b")
        self.assert_image("s:/a//b", "s:/a/", "s:/", "s:/.//b")
        self.assert_image("s:/a//b", "s:/a/", "s://h/", "s://h//b")
        self.assert_image("s:/.//b", "s:/.//", "s:/", "s:/b")
        self.assert_image("s:/.//b", "s:/", "s:/.//", "s:/.///b")
        self.assert_image("s:/.//b", "s:/", "s:/a/", "s:/a//b")
        self.assert_image("s:/.//b", "s:/", "s:///", "s:////b")
        self.assert_image("s:/b", "s:/.//", "s:/a/", "s:/b")

    def test_empty_segments(self):
        self.assert_image("s://h//", "s://h/", "s://k/", "s://k//")
        self.assert_image("s://h//", "s://h//", "s://k/", "s://k/")
        self.assert_image("s://h/a//", "s://h/a/", "s://h/b//", "s://h/b///")
        self.assert_image("s://h/a/", "s://h/a//", "s://h/b/", "s://h/a/")

    def test_paths_that_are_not_cleaned(self):
        self.assert_image("s://h/x/../a/./b", "s://h/a/", "s://h/c/", "s://h/c/b")
        self.assert_image("s://h/a/b/..", "s://h/a/", "s://h/c/", "s://h/c/")
        self.assert_image("s://h/a/.", "s://h/a/", "s://h/c/", "s://h/c/")
        self.assert_image("s://h/../a/b", "s://h/a/", "s://h/a/", "s://h/a/b")
        self.assert_image("s://h/./x", "s://h/a/", "s://h/b/", "s://h/./x")
        self.assert_image("s:/..//b", "s:/", "s:/", "s:/.//b")
        self.assert_image("s:/./b", "s:/", "s:/", "s:/b")

    def test_to_itself(self):
        for branch in BRANCHES:
            for text in PAGES:
                self.assert_image(text, branch, branch, text)

    def test_no_branches(self):
        for text in NO_BRANCHES:
            self.assertFalse(second.is_branch(text))
            for url in ("s://k/", "s://h/a/b", text):
                with self.assertRaises(NoBase):
                    Site.image(parse(url), parse(text), parse("s://h/"))
                with self.assertRaises(NoBase):
                    Site.image(parse(url), parse("s://h/"), parse(text))
        for text in BRANCHES:
            self.assertTrue(second.is_branch(text))

    def test_all_short_paths(self):
        for front in ("s:", "s://h"):
            urls = [front + path for path in all_texts("/.a", 5) if is_url(front + path)]
            for branch in (front + "/", front + "/a/", "s:/.//", "s://h//", "s:/.//a/"):
                for text in urls:
                    for other in ("s:/", "s://h/b/", "s:/.//"):
                        found = Site.image(parse(text), parse(branch), parse(other))
                        self.assertEqual(str(found), second.image(text, branch, other), (text, branch, other))


class Moves(SitesCase):
    def test_a_move_out_of_a_branch(self):
        site = site_of({"s://h/a/x": ["y", "../b", "#f", "", "z/", "/a/y"], "s://h/a/y": ["x"], "s://h/b": ["a/x", "b"]})
        found = self.assert_move(site, "s://h/a/", "s://h/")
        self.assert_rows(site, {"s://h/x": ["y", "../b", "#f", "", "z/", "y"], "s://h/y": ["x"], "s://h/b": ["x", "b"]})
        self.assertEqual(found, [("s://h/b", 0), ("s://h/x", 5)])

    def test_a_move_into_the_branch_itself(self):
        site = site_of({"s://h/a/x": ["b/x", "../c"], "s://h/a/b/x": ["../x", ".."], "s://h/c": ["a/b/x"]})
        found = self.assert_move(site, "s://h/a/", "s://h/a/b/")
        self.assert_rows(site, {"s://h/a/b/x": ["b/x", "/c"], "s://h/a/b/b/x": ["../x", ".."], "s://h/c": ["a/b/b/x"]})
        self.assertEqual(found, [("s://h/a/b/x", 1), ("s://h/c", 0)])
        self.assert_move(site, "s://h/a/b/", "s://h/a/")
        self.assert_rows(site, {"s://h/a/x": ["b/x", "/c"], "s://h/a/b/x": ["../x", ".."], "s://h/c": ["a/b/x"]})

    def test_targets_that_are_no_pages_move_too(self):
        site = site_of({"s://h/x": ["a/b/c?q#f", "a/", "a", "//h/a/b"], "s:/.//y": ["s://h/a/b", "/a/b"]})
        found = self.assert_move(site, "s://h/a/", "t:/")
        self.assertEqual(found, [("s:/.//y", 0), ("s://h/x", 0), ("s://h/x", 1), ("s://h/x", 3)])
        self.assertEqual(rows_of(site), {"s:/.//y": ["t:/b", "/a/b"],
                                         "s://h/x": ["t:/b/c?q#f", "t:/", "a", "t:/b"]})

    def test_what_still_leads_there_stays_even_if_it_is_long(self):
        site = site_of({"s://h/a/x": ["./././y", "z/../y", "../a/y"], "s://h/a/y": ["./x"]})
        self.assertEqual(self.assert_move(site, "s://h/a/", "s://h/b/"), [("s://h/b/x", 2)])
        self.assert_rows(site, {"s://h/b/x": ["./././y", "z/../y", "y"], "s://h/b/y": ["./x"]})

    def test_a_branch_without_pages(self):
        site = site_of({"s://h/x": ["y"]})
        self.assertEqual(self.assert_move(site, "s://h/a/", "s://h/b/"), [])
        site.undo()
        self.assert_rows(site, {"s://h/x": ["y"]})
        self.assertEqual(self.assert_move(Site(), "s://h/a/", "s://h/b/"), [])

    def test_a_branch_to_itself(self):
        rows = {"s://h/a/x": ["y", "../a/./y"], "s:/.//": ["..//", "/.//"]}
        site = site_of(rows)
        for branch in ("s://h/a/", "s://h/", "s:/"):
            self.assertEqual(self.assert_move(site, branch, branch), [])
            self.assert_rows(site, rows)

    def test_changes_ascending_by_text_and_index(self):
        rows = {f"s://h/{name}": ["a/x", "k", "a/y", "//z"] * 3 for name in ("q", "b10", "b9", "B", "a/z", "a/B")}
        found = self.assert_move(site_of(rows), "s://h/a/", "s://h/~/long/")
        self.assertEqual(found, sorted(found))
        self.assertEqual(len(found), 4 * 6)

    def test_no_branches(self):
        site = site_of({"s://h/a/x": ["y"]})
        for text in NO_BRANCHES:
            self.assertRaises(NoBase, site.move, parse(text), parse("s://h/"))
            self.assertRaises(NoBase, site.move, parse("s://h/"), parse(text))
        self.assert_rows(site, {"s://h/a/x": ["y"]})
        site.undo()
        self.assertEqual(len(site), 0)

    def test_a_page_in_the_way(self):
        rows = {"s:/a/z": ["b"], "s:/a/b": [], "s:/a/c?q": [], "s:/b": [], "s:/c?q": [], "s:/z": [], "s:/c": []}
        site = site_of(rows)
        for _ in range(2):
            with self.assertRaises(Taken) as caught:
                site.move(parse("s:/a/"), parse("s:/"))
            self.assertTrue(caught.exception.url == parse("s:/b"))
            self.assert_rows(site, rows)
        site.undo()
        self.assertEqual(len(site), len(rows) - 1)

    def test_the_first_page_in_the_way_by_text(self):
        for pages, wanted in ((("s:/a/b10", "s:/a/b9", "s:/b9", "s:/b10"), "s:/b10"),
                              (("s:/a/x", "s:/a/X", "s:/x", "s:/X"), "s:/X"),
                              (("s:/a/x?b", "s:/a/x", "s:/x?b", "s:/x"), "s:/x"),
                              (("s:/a/x", "s:/b", "s:/x"), "s:/x")):
            with self.assertRaises(Taken) as caught:
                site_of({page: [] for page in pages}).move(parse("s:/a/"), parse("s:/"))
            self.assertEqual(str(caught.exception.url), wanted)

    def test_pages_in_the_branch_are_not_in_the_way(self):
        site = site_of({"s:/a/x": ["x"], "s:/a/a/x": ["x"], "s:/a/a/a/x": ["../x"]})
        self.assert_move(site, "s:/a/", "s:/a/a/")
        self.assertEqual(list(rows_of(site)), ["s:/a/a/a/a/x", "s:/a/a/a/x", "s:/a/a/x"])
        with self.assertRaises(Taken) as caught:
            site.put(parse("s:/a/x"), [])
            site.move(parse("s:/a/a/"), parse("s:/a/"))
        self.assertEqual(str(caught.exception.url), "s:/a/x")

    def test_a_branch_that_differs_only_in_the_authority(self):
        site = site_of({"s://h/a": ["b", "//h/c", "s:/a"], "s:/a": ["b", "//h/a"], "s:///a": ["/a", "///b"]})
        self.assert_move(site, "s://h/", "s:/b/")
        self.assert_move(site, "s:///", "s:/.//")
        self.assertEqual(list(rows_of(site)), ["s:/.//a", "s:/a", "s:/b/a"])


class Undo(SitesCase):
    def test_nothing_to_undo(self):
        site = Site()
        self.assertRaises(NoPlace, site.undo)
        site.put(parse("s:/a"), [])
        self.assertIsNone(site.undo())
        self.assertRaises(NoPlace, site.undo)
        self.assertEqual(len(site), 0)

    def test_puts_and_moves_in_turn(self):
        site, kept = Site(), []
        for word, one, other in (("put", "s:/a/x", "../b"), ("put", "s:/b", "a/x"), ("move", "s:/a/", "s:/c/d/"),
                                 ("put", "s:/b", "zzz"), ("move", "s:/", "t://k/"), ("put", "s:/a/x", ""),
                                 ("put", "s:/a/x", ""), ("move", "s:/x/", "s:/y/"), ("move", "t://k/c/", "t://k/")):
            kept.append(rows_of(site))
            if word == "put":
                site.put(parse(one), [parse(other)])
            else:
                site.move(parse(one), parse(other))
        last = rows_of(site)
        site.undo()
        site.move(parse("t://k/c/"), parse("t://k/"))
        self.assert_rows(site, last)
        for rows in reversed(kept):
            site.undo()
            self.assert_rows(site, rows)
        self.assertRaises(NoPlace, site.undo)

    def test_links_and_targets_are_as_before(self):
        site = site_of({"s:/a/x": ["y"], "s:/a/y": ["x"]})
        one, other = parse("s:/a/x"), parse("s:/a/y")
        self.assertEqual(site.shortest(one, other), [0])
        site.put(one, [parse("z")])
        self.assertIsNone(site.shortest(one, other))
        site.undo()
        self.assertEqual(site.shortest(one, other), [0])
        site.move(parse("s:/a/"), parse("s:/b/"))
        self.assertRaises(NoRoute, site.shortest, one, other)
        self.assertEqual(site.shortest(parse("s:/b/x"), parse("s:/b/y")), [0])
        site.undo()
        self.assertEqual(texts(site.targets(one)), ["s:/a/y"])


class ByChance(SitesCase):
    def test_moves_of_small_sites(self):
        chance = random.Random(1)
        branches = ["s:/", "s:/a/", "s:/a/b/", "s:/.//", "s:/b/", "s://h/", "s://h/a/", "t:/a/"]
        references = ["", "a", "b", "..", "../a", "/", "/a/b", "b/a?q", "#f", "./", "a//b", ".//", "//h/a", "s:/a/", "t:x",
                      "s:/a/b/../x", "../../b/a", "?", "b:a/..", "./b:a"]
        moves = 0
        for _ in range(120):
            site = Site()
            for _ in range(chance.randrange(1, 6)):
                page = chance.choice(branches) + chance.choice(("", "a", "b", "a/b", "b/", "/a", "a?q"))
                if second.is_page(page):
                    site.put(parse(page), [parse(chance.choice(references)) for _ in range(chance.randrange(5))])
            kept = [rows_of(site)]
            for _ in range(6):
                branch, other = chance.choice(branches), chance.choice(branches)
                pages = rows_of(site)
                inside = [page for page in pages if second.is_in(page, branch)]
                images = [second.image(page, branch, other) for page in inside]
                taken = [page for page in pages if page in images and page not in inside]
                if taken:
                    with self.assertRaises(Taken) as caught:
                        site.move(parse(branch), parse(other))
                    self.assertEqual(str(caught.exception.url), min(taken))
                    self.assertEqual(rows_of(site), pages)
                else:
                    self.assert_move(site, branch, other)
                    kept.append(rows_of(site))
                    moves += 1
            for rows in reversed(kept[:-1]):
                site.undo()
                self.assertEqual(rows_of(site), rows)
        self.assertGreater(moves, 400)

    def test_new_references_are_least_among_all_short_ones(self):
        rows = [(text, second_reading.read(text)) for text in all_texts("/.ab", 5)
                if isinstance(second_reading.read(text), dict)]
        pages = {"s://h/a/a": ["b", "../b", "/a/b", "a/b", "..", "/"], "s://h/b": ["a/a", "a/b", "a/", "", "/a/a/b"]}
        for branch, other in (("s://h/a/", "s://h/b/"), ("s://h/a/", "s://h/"), ("s://h/", "s://h/a/"),
                              ("s://h/a/", "s://h//"), ("s://h/a/a/", "s://h/b/")):
            site = site_of(pages)
            for page, index in site.move(parse(branch), parse(other)):
                found = str(site.references(page)[index])
                goal = second_reading.read(str(site.targets(page)[index]))
                base = second_reading.read(str(page))
                least = next((text for text, parts in rows if second_reading.joined(base, parts) == goal), None)
                if least is None:
                    self.assertGreater(len(found), 5)
                else:
                    self.assertEqual(found, least)


class Large(SitesCase):
    def test_a_hundred_pages_with_long_paths(self):
        folder = "s://h/" + "a/" * 700
        rows = {f"{folder}{number}": [f"{(number + 1) % 100}", f"../x{number}", ".."] for number in range(100)}
        site = site_of(rows)
        self.assertEqual(len(site.shortest(parse(folder + "1"), parse(folder + "0"))), 99)
        changes = site.move(parse(folder), parse("s://h/b/"))
        self.assertEqual(len(changes), 200)
        self.assertEqual(str(site.targets(parse("s://h/b/7"))[1]), "s://h/" + "a/" * 699 + "x7")
        self.assertEqual(len(site.shortest(parse("s://h/b/1"), parse("s://h/b/0"))), 99)
        site.undo()
        self.assertTrue(site == site_of(rows))


if __name__ == "__main__":
    unittest.main()
