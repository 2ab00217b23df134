"""The promises of [3] over the whole program, for texts, bases and tables that are drawn."""

import random
import unittest

import second_reading
from common import parts_of
from urlplaces.bases import parting, relative
from urlplaces.checker import shown, walked
from urlplaces.errors import BadUrl, NoBase, Taken
from urlplaces.escapes import escaped, mended, octets
from urlplaces.joining import join, leads
from urlplaces.parsing import parse
from urlplaces.parts import Url
from urlplaces.queries import pairs, query_of
from urlplaces.redirects import Redirects
from urlplaces.redirects import paper as chain_paper
from urlplaces.redirects import shows as chain_shows
from urlplaces.routes import Routes
from urlplaces.rules import after, alike, normal, paper, steps
from urlplaces.sites import Site, shows
from urlplaces.tours import Tour

PIECES = ("/", "/", "a", "B", "^2e", "^2E", ".", "..", "^c3", "^41", ":", "@", "?", "#", "s:", "S:", "//", "h", "80", "http:",
          "=", "&", "[", "]", "~", "^4", " ", "/..", "/.", "x/../")
FOLDERS = ("", "a/", "b/", "a/b/", "^61/", "/", "a//", "b/a/")


def drawn_texts(seed, many):
    chance = random.Random(seed)
    return ["".join([chance.choice(PIECES) for _ in range(chance.randrange(8))]) for _ in range(many)]


def drawn_urls(seed, many):
    found = [text for text in drawn_texts(seed, many * 6) if isinstance(second_reading.read(text), dict)]
    return [parse(text) for text in found[:many]]


def drawn_bases(seed, many):
    chance = random.Random(seed)
    found = []
    for _ in range(many):
        text = chance.choice(("s:/", "S:/", "s://h/", "s://H/", "http://h:80/")) + chance.choice(FOLDERS[:5])
        found.append(parse(text + chance.choice(("", "x", "x/^2e", "../y", "a?q", "#f", "./^7e/z", "b/c", "^2e^2e/x"))))
    return found


def drawn_branches(chance, many):
    return [parse(chance.choice(("s:/", "s://h/", "S://h/")) + chance.choice(("", "a/", "b/", "a/b/", "^61/", "b/a/", "a//")))
            for _ in range(many)]


class Texts(unittest.TestCase):
    def test_a_text_is_parsed_or_its_first_wrong_place_is_told(self):
        for text in drawn_texts(1, 4000):
            wanted = second_reading.read(text)
            try:
                url = parse(text)
                self.assertEqual((parts_of(url), str(url), len(url)), (wanted, text, len(text)))
            except BadUrl as error:
                self.assertEqual((error.kind, error.place), wanted)

    def test_escaping_what_is_escaped_changes_nothing(self):
        for text in drawn_texts(2, 1000):
            for name in ("user", "host", "path", "query", "fragment"):
                told = mended(text, name)
                self.assertEqual(mended(told, name), told)
                self.assertEqual(octets(escaped(octets(told))), octets(told))
                self.assertEqual(escaped(octets(escaped(octets(told)))), escaped(octets(told)))

    def test_a_query_of_pairs_is_read_as_the_same_pairs(self):
        for one, other in zip(drawn_texts(3, 500), drawn_texts(4, 500)):
            items = [(one, other), (other, None), ("", one)]
            url = Url.of(query=query_of(items))
            self.assertEqual(pairs(parse(str(url)).query), items)

    def test_replacing_parts_leaves_the_others(self):
        values = {"scheme": "t", "user": "u", "host": "k", "port": "7", "path": "/p", "query": "q", "fragment": "f"}
        for url in drawn_urls(5, 400):
            for name, value in values.items():
                if name in ("user", "port") and url.host is None or name == "host" and url.path[:1] not in ("", "/"):
                    continue
                self.assertEqual(parts_of(url.replaced(**{name: value})), {**parts_of(url), name: value})


class Places(unittest.TestCase):
    def test_joining_is_the_walk(self):
        for base in drawn_bases(6, 40):
            for reference in drawn_urls(7, 60):
                wanted = second_reading.joined(parts_of(base), parts_of(reference))
                self.assertEqual(parts_of(join(base, reference)), wanted)
                found = relative(base, join(base, reference))
                self.assertTrue(leads(base, found, join(base, reference)))
                self.assertLessEqual((len(found), str(found)), (len(reference), str(reference)))

    def test_steps_end_and_papers_hold(self):
        chance = random.Random(8)
        urls = drawn_urls(8, 150)
        for one, other in zip(urls, urls[::-1]):
            ways = []
            for url in (one, other):
                way = []
                while steps(url):
                    way.append(chance.choice(steps(url)))
                    url = after(url, way[-1])
                ways.append(way)
            word = "alike" if alike(one, other) else "unlike"
            self.assertEqual([shown(one, other, tuple(ways)), shown(one, other, paper(one, other))], [word, word])
            self.assertTrue(walked(one, ways[0]) == normal(one))

    def test_what_parts_two_bases(self):
        bases, references = drawn_bases(9, 60), drawn_urls(9, 150)
        for one, other in zip(bases, bases[1:]):
            found = parting(one, other)
            told = [reference for reference in references if not alike(one + reference, other + reference)]
            if found is None:
                self.assertEqual(told, [])
            else:
                self.assertFalse(alike(one + found, other + found))
                for reference in told:
                    self.assertLessEqual((len(found), str(found)), (len(reference), str(reference)))

    def test_a_tour_is_at_the_place_to_which_its_visits_lead(self):
        for base in drawn_bases(10, 30):
            tour, places = Tour(base), [base]
            for reference in drawn_urls(11, 40):
                tour.tried(lambda here: [here.back(len(here) - 1), here.go(parse("x")), here.go(parse("//y"))])
                try:
                    tour.go(reference)
                    places.append(join(places[-1], reference))
                except NoBase:
                    self.assertFalse(join(places[-1], reference).is_base)
                tour.back(len(tour) // 2)
                tour.forward(len(places) // 2)
                self.assertTrue(tour.here == places[-1])
            self.assertTrue(list(tour.trail()) == places)

    def test_routes_go_by_normal_forms(self):
        chance = random.Random(12)
        for _ in range(30):
            table, prefixes = Routes(), drawn_branches(chance, 4)
            for prefix in prefixes:
                table.add(prefix, str(normal(prefix)))
            for url in drawn_bases(13, 40):
                found = [str(normal(prefix)) for prefix in prefixes if str(normal(url)).startswith(str(normal(prefix)))]
                self.assertEqual(table.covers(url), found != [])
                if found:
                    self.assertEqual(table(url), max(found, key=len))


class Tables(unittest.TestCase):
    def test_a_chain_ends_or_a_paper_shows_that_it_does_not(self):
        chance = random.Random(14)
        for _ in range(60):
            table = Redirects()
            for branch, other in zip(drawn_branches(chance, 5), drawn_branches(chance, 5)):
                table.add(branch, other)
            for url in drawn_bases(15, 20):
                found = chain_paper(table, url)
                self.assertTrue(chain_shows(table, url, found))
                if found[0] == "final":
                    chain = list(table.chain(url))
                    self.assertEqual(len(chain), found[1] + 1)
                    self.assertTrue(chain[-1] == table.final(url))
                    self.assertFalse(chain[-1] in table)
                    self.assertFalse(chain_shows(table, url, ("endless", 0, 1)))
                else:
                    self.assertIsNone(table.final(url))
                    self.assertTrue(chain_shows(table, url, (*found[:2], found[2] * 10 ** 50)))

    def test_the_least_base_that_tells_two_tables_apart(self):
        chance = random.Random(16)
        for _ in range(200):
            one, other = Redirects(), Redirects()
            for branch, goal in zip(drawn_branches(chance, 3), drawn_branches(chance, 3)):
                one.add(branch, goal)
                other.add(branch, goal)
            if chance.random() < 0.8:
                other.add(*drawn_branches(chance, 2))
            found = one.telling(other)
            told = [url for url in map(normal, drawn_bases(17, 60)) if one.following(url) != other.following(url)]
            if found is None:
                self.assertEqual(told, [])
            else:
                self.assertNotEqual(one.following(found), other.following(found))
                for url in told:
                    self.assertLessEqual((len(found), str(found)), (len(url), str(url)))

    def test_references_lead_to_the_images_of_what_they_led_to(self):
        chance = random.Random(18)
        for _ in range(80):
            site = Site()
            for branch in drawn_branches(chance, 4):
                site.put(parse(str(branch) + chance.choice("xyz")), chance.sample(drawn_urls(19, 80), 4))
            targets = {str(page): site.targets(page) for page in site.pages()}
            branch, other = drawn_branches(chance, 2)
            try:
                changes = site.move(branch, other)
            except Taken:
                continue
            for text, urls in targets.items():
                page = Site.image(parse(text), branch, other)
                self.assertTrue(site.targets(page) == [Site.image(url, branch, other) for url in urls])
                for index, reference in enumerate(site.references(page)):
                    if (page, index) in changes:
                        self.assertTrue(reference == relative(page, site.targets(page)[index]))
            for start in site.pages():
                for goal in site.pages():
                    self.assertTrue(shows(site, start, goal, site.paper(start, goal)))


if __name__ == "__main__":
    unittest.main()
