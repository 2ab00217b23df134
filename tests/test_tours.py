"""Tours: places, visits, steps back and forward, and what is tried [16]."""

import random
import unittest

from urlplaces.bases import relative
from urlplaces.errors import NoBase, NoPlace, NoRow
from urlplaces.joining import join
from urlplaces.parsing import parse
from urlplaces.parts import Url
from urlplaces.tours import Tour

B = "http://a.b/c/d;p?q"
NO_BASES = ("", "a", "/a", "//h/a", "s:", "s:a", "s:?q", "?", "#f")
FAR = 10 ** 59


def texts(urls):
    return [str(url) for url in urls]


def state(tour):
    """All that can be seen of a tour; it stands at its place again afterwards."""
    trail, ahead = texts(tour.trail()), []
    while True:
        try:
            ahead.append(str(tour.forward()))
        except NoPlace:
            break
    tour.back(len(ahead))
    return str(tour.here), len(tour), trail, ahead


class TourCase(unittest.TestCase):
    def assert_state(self, tour, trail, ahead=()):
        self.assertEqual(state(tour), (trail[-1], len(trail), list(trail), list(ahead)))

    def tour_with(self, *references):
        tour = Tour(parse("s://h/a"))
        for reference in references:
            tour.go(parse(reference))
        return tour


class Examples(TourCase):
    def test_of_the_interface(self):
        tour = Tour(parse(B))
        found = [str(tour.go(parse("x"))), str(tour.go(parse("?y"))), str(tour.back()), str(tour.back()), len(tour)]
        self.assertEqual(found, ["http://a.b/c/x", "http://a.b/c/x?y", "http://a.b/c/x", "http://a.b/c/d;p?q", 1])

    def test_a_new_tour(self):
        for text in ("s:/", "s://h", B, "S://H/./a#f"):
            tour = Tour(base=parse(text))
            self.assertIs(type(tour.here), Url)
            self.assert_state(tour, [text])

    def test_no_base(self):
        for text in NO_BASES:
            with self.subTest(text):
                with self.assertRaises(NoBase):
                    Tour(parse(text))

    def test_arguments_by_name(self):
        tour = Tour(parse("s://h/a"))
        self.assertEqual(str(tour.go(reference=parse("b"))), "s://h/b")
        self.assertEqual(str(tour.back(many=1)), "s://h/a")
        self.assertEqual(str(tour.forward(many=1)), "s://h/b")
        self.assertEqual(str(tour.least(goal=parse("s://h/a"))), "a")
        self.assertEqual(tour.tried(function=len), 2)


class Visits(TourCase):
    def test_where_visits_lead(self):
        tour = Tour(parse("s://h/a/b?q#f"))
        trail = ["s://h/a/b?q#f"]
        for reference, place in (("", "s://h/a/b?q"), ("", "s://h/a/b?q"), ("#x", "s://h/a/b?q#x"), ("..", "s://h/"),
                                 ("//k", "s://k"), ("c", "s://k/c"), ("t:/./d", "t:/d"), (".//e", "t:/.//e"),
                                 ("f", "t:/.//f"), ("../?", "t:/?")):
            url = tour.go(parse(reference))
            self.assertIs(type(url), Url)
            trail.append(place)
            self.assertEqual(str(url), place)
            self.assert_state(tour, trail)

    def test_visits_to_what_is_no_base(self):
        tour = self.tour_with("b", "c")
        tour.back()
        for reference in ("s:", "s:b", "t:b/c", "t:?q", "mailto:a@b"):
            with self.assertRaises(NoBase):
                tour.go(parse(reference))
            self.assert_state(tour, ["s://h/a", "s://h/b"], ["s://h/c"])

    def test_back_and_forward(self):
        tour = self.tour_with("b", "c", "d")
        trail = [f"s://h/{name}" for name in "abcd"]
        self.assertEqual(str(tour.back()), "s://h/c")
        self.assert_state(tour, trail[:3], trail[3:])
        self.assertEqual(str(tour.back(2)), "s://h/a")
        self.assert_state(tour, trail[:1], trail[1:])
        self.assertEqual(str(tour.forward()), "s://h/b")
        self.assertEqual(str(tour.forward(2)), "s://h/d")
        self.assert_state(tour, trail)
        self.assertEqual(str(tour.back(3)), "s://h/a")
        self.assertEqual(str(tour.forward(3)), "s://h/d")

    def test_no_steps(self):
        tour = self.tour_with("b", "c")
        tour.back()
        self.assertEqual((str(tour.back(0)), str(tour.forward(0))), ("s://h/b", "s://h/b"))
        self.assert_state(tour, ["s://h/a", "s://h/b"], ["s://h/c"])
        alone = Tour(parse("s:/"))
        self.assertEqual((str(alone.back(0)), str(alone.forward(0))), ("s:/", "s:/"))

    def test_more_steps_than_there_are(self):
        tour = self.tour_with("b", "c", "d")
        tour.back()
        for many in (3, 4, 100, FAR):
            with self.assertRaises(NoPlace):
                tour.back(many)
        for many in (2, 3, 100, FAR):
            with self.assertRaises(NoPlace):
                tour.forward(many)
        self.assert_state(tour, ["s://h/a", "s://h/b", "s://h/c"], ["s://h/d"])
        alone = Tour(parse("s:/"))
        for step in (alone.back, alone.forward):
            with self.assertRaises(NoPlace):
                step()
        self.assert_state(alone, ["s:/"])

    def test_a_visit_behind_steps_back(self):
        tour = self.tour_with("b", "c", "d")
        tour.back(2)
        tour.go(parse("x"))
        self.assert_state(tour, ["s://h/a", "s://h/b", "s://h/x"])
        with self.assertRaises(NoPlace):
            tour.forward()
        tour.back()
        self.assert_state(tour, ["s://h/a", "s://h/b"], ["s://h/x"])

    def test_a_visit_to_the_place_that_was_ahead(self):
        tour = self.tour_with("b", "c", "d")
        tour.back(2)
        tour.go(parse("c"))
        self.assert_state(tour, ["s://h/a", "s://h/b", "s://h/c"])

    def test_two_tours_share_nothing(self):
        base = parse("s://h/a")
        one, other = Tour(base), Tour(base)
        one.go(parse("b"))
        self.assert_state(other, ["s://h/a"])
        other.go(parse("c"))
        one.back()
        self.assert_state(one, ["s://h/a"], ["s://h/b"])
        self.assert_state(other, ["s://h/a", "s://h/c"])


class Trail(TourCase):
    def test_it_is_a_generator(self):
        tour = self.tour_with("b")
        found = tour.trail()
        self.assertIs(iter(found), found)
        self.assertEqual(str(next(found)), "s://h/a")
        self.assertEqual(str(next(found)), "s://h/b")
        self.assertIsNone(next(found, None))

    def test_as_the_places_are_when_its_first_item_is_taken(self):
        tour = self.tour_with("b")
        found = tour.trail()
        tour.go(parse("c"))
        self.assertEqual(str(next(found)), "s://h/a")
        tour.go(parse("d"))
        tour.back(3)
        tour.go(parse("x"))
        self.assertEqual(texts(found), ["s://h/b", "s://h/c"])
        self.assert_state(tour, ["s://h/a", "s://h/x"])

    def test_begun_and_left(self):
        tour = self.tour_with("b", "c")
        first, second = tour.trail(), tour.trail()
        self.assertEqual(str(next(first)), "s://h/a")
        tour.back()
        self.assertEqual(texts(second), ["s://h/a", "s://h/b"])
        self.assertEqual(texts(first), ["s://h/b", "s://h/c"])
        first.close()
        self.assert_state(tour, ["s://h/a", "s://h/b"], ["s://h/c"])

    def test_read_while_the_tour_goes_on(self):
        tour = self.tour_with("b", "c")
        for number, url in enumerate(tour.trail()):
            tour.go(parse(f"x{number}"))
            self.assertEqual(str(url), ("s://h/a", "s://h/b", "s://h/c")[number])
        self.assertEqual(len(tour), 6)

    def test_before_it_begins_in_what_is_tried(self):
        tour = self.tour_with("b")
        late = tour.tried(lambda here: (here.go(parse("c")), here.trail())[1])
        self.assertEqual(texts(late), ["s://h/a", "s://h/b"])


class Least(TourCase):
    def test_it_is_relative_from_the_place(self):
        tour = Tour(parse("s://h/a/b"))
        for reference in ("../c?d", "x/y/z", "/", "#f", "//k/a/b", "t:/"):
            tour.go(parse(reference))
            for goal in ("s://h/a/b", "s://h/", "t:/a", "s:a", "", "s://h/./a", "s://k/a/", str(tour.here)):
                wanted = relative(tour.here, parse(goal))
                self.assertEqual(repr(tour.least(parse(goal))), repr(wanted))
        self.assertIsNone(tour.least(parse("a")))
        self.assertEqual(str(tour.least(tour.here)), "")


class Tried(TourCase):
    def test_what_it_returns(self):
        tour = self.tour_with("b")
        for value in (None, 0, "x", [1], {}, tour, parse("")):
            self.assertIs(tour.tried(lambda _: value), value)
        self.assertIs(tour.tried(lambda here: here), tour)
        self.assertEqual(str(tour.tried(lambda here: here.go(parse("c/d")))), "s://h/c/d")

    def test_the_tour_is_as_before(self):
        tour = self.tour_with("b", "c", "d")
        tour.back()
        before = state(tour)
        for function in (lambda here: here.go(parse("x")), lambda here: here.back(2), lambda here: here.forward(),
                         lambda here: [here.back(2), here.go(parse("x")), here.go(parse("y")), here.back()],
                         lambda here: [here.forward(), here.back(3), here.forward(1)], lambda here: here.go(parse("d"))):
            tour.tried(function)
            self.assertEqual(state(tour), before)

    def test_the_function_sees_its_own_visits(self):
        tour = self.tour_with("b")

        def function(here):
            self.assert_state(here, ["s://h/a", "s://h/b"])
            here.go(parse("c"))
            here.back()
            self.assert_state(here, ["s://h/a", "s://h/b"], ["s://h/c"])
            return len(here)

        self.assertEqual(tour.tried(function), 2)

    def test_errors_go_through(self):
        tour = self.tour_with("b", "c")
        tour.back()
        before = state(tour)
        error = NoRow("x")

        def function(here):
            here.back()
            here.go(parse("x"))
            raise error

        with self.assertRaises(NoRow) as caught:
            tour.tried(function)
        self.assertIs(caught.exception, error)
        self.assertEqual(state(tour), before)
        for wrong, kind in ((lambda here: here.back(5), NoPlace), (lambda here: here.go(parse("s:x")), NoBase),
                            (lambda here: [here.go(parse("x")), here.forward()], NoPlace),
                            (lambda here: [here.go(parse("x")), 1 // 0], ZeroDivisionError)):
            with self.assertRaises(kind):
                tour.tried(wrong)
            self.assertEqual(state(tour), before)

    def test_nested(self):
        tour = self.tour_with("b")

        def inner(here):
            here.back(2)
            here.go(parse("x"))
            raise NoPlace()

        def outer(here):
            here.go(parse("c"))
            with self.assertRaises(NoPlace):
                here.tried(inner)
            self.assert_state(here, ["s://h/a", "s://h/b", "s://h/c"])
            here.back()
            return here.tried(lambda again: str(again.forward()))

        self.assertEqual(tour.tried(outer), "s://h/c")
        self.assert_state(tour, ["s://h/a", "s://h/b"])

    def test_deeply_nested(self):
        tour = self.tour_with()

        def function(here):
            here.go(parse(f"x{len(here)}"))
            return len(here) if len(here) > 50 else here.tried(function)

        self.assertEqual(tour.tried(function), 51)
        self.assert_state(tour, ["s://h/a"])

    def test_two_tours(self):
        one, other = self.tour_with("b"), self.tour_with("c")
        one.tried(lambda here: [here.back(), other.go(parse("d"))])
        self.assert_state(one, ["s://h/a", "s://h/b"])
        self.assert_state(other, ["s://h/a", "s://h/c", "s://h/d"])


class ByChance(TourCase):
    def test_the_place_to_which_the_visits_lead(self):
        chance = random.Random(1)
        for _ in range(60):
            tour, places, at = Tour(parse("s://h/a")), [parse("s://h/a")], 0
            for _ in range(60):
                word, many = chance.choice(("go", "go", "back", "forward", "bad", "tried")), chance.randrange(4)
                if word == "go":
                    reference = parse(chance.choice(("b", "..", "?q", "#f", "//k/x", "x/y", "", "t:/z")))
                    places = places[:at + 1] + [join(places[at], reference)]
                    at += 1
                    tour.go(reference)
                elif word == "bad":
                    self.assertRaises(NoBase, tour.go, parse("s:x"))
                elif word == "tried":
                    tour.tried(lambda here: [here.back(min(many, len(here) - 1)), here.go(parse("w"))])
                elif 0 <= at + (many if word == "forward" else -many) < len(places):
                    at += many if word == "forward" else -many
                    self.assertTrue(getattr(tour, word)(many) == places[at])
                else:
                    self.assertRaises(NoPlace, getattr(tour, word), many)
                self.assertTrue(tour.here == places[at])
            self.assert_state(tour, texts(places[:at + 1]), texts(places[at + 1:]))

    def test_thousands_of_visits(self):
        tour = Tour(parse("s:/"))
        for number in range(5000):
            tour.go(parse(f"x{number}"))
        self.assertEqual(len(tour), 5001)
        self.assertEqual(str(tour.back(4999)), "s:/x0")
        self.assertEqual(str(tour.forward(2500)), "s:/x2500")
        self.assertEqual(len(list(tour.trail())), 2502)
        for _ in range(100):
            tour.tried(lambda here: here.go(parse("y")))
        self.assertEqual(str(tour.forward(2499)), "s:/x4999")


if __name__ == "__main__":
    unittest.main()
