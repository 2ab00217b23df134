"""shown and walked: what papers show, and where lists of steps lead [12]."""

import itertools
import random
import unittest

import second_steps
from common import ANY_VALUES, parts_of
from urlplaces.checker import shown, walked
from urlplaces.errors import BadStep
from urlplaces.parsing import is_url, parse
from urlplaces.parts import Url
from urlplaces.rules import RULES, alike, normal, paper, steps

B = "http://a.b/c/d;p?q"
PAIRS = (
    ("", ""), ("", "?"), (B, B), (B, "HTTP://@A.B:080/c/./d;p?^71"), (B, "HTTP://@A.B:080/c/./d;p?^72"),
    ("s:/x/..", "s:/"), ("s:/x/..", "s:/x"), ("s://h", "S://H:/"), ("^41", "A"), ("^41", "a"), ("/a/..//b", "/.//b"),
    ("s:/^2e^2e//a", "s:/.//a"), ("^c3", "^C3"), ("AB:", "aB:"), ("Ab:", "ac:"), ("//@H:?", "//@H:#"),
    ("s:/a/b/../../c", "s:/./c"), ("ftp://x:0021", "FTP://X"), ("s:/" + "../" * 7, "s:/" + "a/../" * 7))


def second_walk(text, values):
    """The text behind a list of steps, or the index of the first one that is not possible."""
    for place, value in enumerate(values):
        found = [step for step in second_steps.all_steps(text) if same(step, value)]
        if not found:
            return place
        text = second_steps.all_steps(text)[found[0]]
    return text


def same(one, other):
    """Whether two values are equal and of the same kinds, at every depth."""
    if type(one) is not type(other):
        return False
    if isinstance(one, tuple):
        return len(one) == len(other) and all(map(same, one, other))
    return one == other


def second_shown(one, other, value):
    if type(value) is not tuple or [type(each) for each in value] != [list, list]:
        return None
    ends = [second_walk(text, values) for text, values in zip((one, other), value)]
    if int in map(type, ends):
        return None
    if ends[0] == ends[1]:
        return "alike"
    return None if second_steps.all_steps(ends[0]) or second_steps.all_steps(ends[1]) else "unlike"


def changed_papers(found):
    """Papers that differ from this one in one thing, and some that differ in more."""
    first, second = found
    yield second, first
    yield first, []
    yield [], second
    yield first + second, []
    yield first, second + second
    yield first[::-1], second[::-1]
    for number, rows in enumerate(found):
        for new in changed_lists(rows):
            yield (new, second) if number == 0 else (first, new)


def changed_lists(rows):
    for at, step in enumerate(rows):
        rule, index = step
        yield rows[:at] + rows[at + 1:]
        yield rows[:at]
        yield rows[:at] + [step, step] + rows[at + 1:]
        yield rows[:at] + rows[at:at + 2][::-1] + rows[at + 2:]
        for other in (*((each, index) for each in RULES), *((rule, index + by) for by in (-1, 1, 2)), (rule, -index - 1),
                      (rule,), (rule, index, 0), [rule, index], (index, rule), rule, None, (rule, str(index)),
                      (rule, [index]), (rule, None), (rule, bool(index))):
            yield rows[:at] + [other] + rows[at + 1:]
    for other in (None, ("lower", 0), ("dot", 0), ("dot", 2), ("slash", 4)):
        yield rows + [other]
        yield [other] + rows


class Shown(unittest.TestCase):
    def assert_shown(self, one, other, value, wanted):
        with self.subTest((one, other, value)):
            kept = repr(value)
            urls = parse(one), parse(other)
            self.assertEqual(shown(*urls, value), wanted)
            self.assertEqual((repr(value), str(urls[0]), str(urls[1])), (kept, one, other))

    def test_of_the_interface(self):
        self.assertEqual(shown(parse(B), parse(B), ([], [])), "alike")

    def test_papers_that_are_made(self):
        for one, other in PAIRS:
            self.assert_shown(one, other, paper(parse(one), parse(other)),
                              "alike" if alike(parse(one), parse(other)) else "unlike")

    def test_arguments_by_name(self):
        self.assertEqual(shown(value=([("lower", 0)], []), other=parse("a:"), one=parse("A:")), "alike")

    def test_papers_that_are_changed(self):
        for one, other in PAIRS:
            for value in changed_papers(paper(parse(one), parse(other))):
                self.assertEqual(shown(parse(one), parse(other), value), second_shown(one, other, value),
                                 (one, other, value))

    def test_two_empty_lists(self):
        for one, other, wanted in (
                (B, B, "alike"), ("", "", "alike"), ("S:", "S:", "alike"), ("s:/./a", "s:/./a", "alike"),
                ("s:/a", "s:/b", "unlike"), ("", "#", "unlike"), ("a", "A", "unlike"), ("S:", "s:", None),
                ("S:/a", "s:/b", None), ("s:/a", "S:/b", None), ("S:/a", "S:/b", None), ("s:/a", "s:/b/.", None)):
            self.assert_shown(one, other, ([], []), wanted)

    def test_equal_urls_at_which_a_step_is_possible(self):
        self.assert_shown("HT:", "Ht:", ([("lower", 1)], []), "alike")
        self.assert_shown("HT:", "Ht:", ([("lower", 0)], []), None)
        self.assert_shown("s:/./^7e", "s:/^7e", ([("dot", 2)], []), "alike")

    def test_steps_that_are_taken_in_another_order(self):
        self.assert_shown("AB:", "ab:", ([("lower", 1), ("lower", 0)], []), "alike")
        self.assert_shown("AB:", "ab:", ([("lower", 0), ("lower", 0)], []), None)
        self.assert_shown("s:/a/./../b", "s:/b", ([("dot", 4), ("dot", 4)], []), "alike")
        self.assert_shown("s:/a/./../b", "s:/b", ([("dot", 6), ("dot", 4)], []), None)

    def test_any_values(self):
        for value in (*ANY_VALUES, *ODD_PAPERS):
            for one, other in ((B, B), ("A:", "B:"), ("a:", "b:"), ("", "")):
                self.assert_shown(one, other, value, None)

    def test_any_values_as_steps(self):
        for value in ANY_VALUES:
            self.assert_shown("AB:", "aB:", ([("lower", 0), value], []), None)
            self.assert_shown("aB:", "AB:", ([], [value]), None)
            self.assert_shown("AB:", "AB:", ([value], []), None)

    def test_no_two_papers_of_the_same_urls_show_different_words(self):
        chance = random.Random(1)
        for one, other in PAIRS:
            words = set()
            for _ in range(40):
                value = tuple(walk_by_chance(chance, text) for text in (one, other))
                words.add(shown(parse(one), parse(other), value))
            wanted = "alike" if alike(parse(one), parse(other)) else "unlike"
            self.assertLessEqual(words, {wanted, None})
            self.assertEqual(words - {None}, {wanted})

    def test_all_short_lists_of_steps(self):
        rows = [*itertools.product(("lower", "dot", "slash"), range(6))]
        lists = [list(found) for many in range(3) for found in itertools.product(rows, repeat=many)]
        for one, other in (("AB:", "ab:"), ("S:/./.", "s:/"), ("//H", "//h/")):
            for found in lists:
                for value in ((found, []), (found, found), ([], found)):
                    self.assertEqual(shown(parse(one), parse(other), value), second_shown(one, other, value))


# What is no paper, although it is like one.
ODD_PAPERS = (
    ([],), ([], [], []), [[], []], ((), ()), ([], ()), ((), []), ([], None), (None, []), ([], {}), ({}, []), ("", ""),
    ([[]], []), ([], [[]]), ([()], []), ("alike", []), ([], "alike"), (([], []),), {"alike": ([], [])})


def walk_by_chance(chance, text):
    """A list of steps that are taken by chance, often as long as one is possible."""
    found = []
    most = chance.choice((0, 1, 3, 99))
    while len(found) < most and second_steps.all_steps(text):
        step = chance.choice(list(second_steps.all_steps(text)))
        found.append(step)
        text = second_steps.all_steps(text)[step]
    return found


class Walked(unittest.TestCase):
    def assert_place(self, text, values, place):
        with self.subTest((text, values)):
            url, kept = parse(text), repr(values)
            with self.assertRaises(BadStep) as caught:
                walked(url, values)
            self.assertIs(type(caught.exception.place), int)
            self.assertEqual((caught.exception.place, str(url), repr(values)), (place, text, kept))

    def test_no_steps(self):
        for text in ("", B, "S:/./a"):
            found = walked(parse(text), [])
            self.assertIs(type(found), Url)
            self.assertTrue(found == parse(text))

    def test_where_steps_lead(self):
        for text, values, behind in (
                ("AB:", [("lower", 1)], "Ab:"), ("AB:", [("lower", 1), ("lower", 0)], "ab:"),
                ("s:/a/./../b", [("dot", 4), ("dot", 4)], "s:/b"), ("//h", [("slash", 3)], "//h/"),
                ("//@^41:00", [("unescape", 3), ("lower", 3), ("port", 5), ("user", 2), ("slash", 5)], "//a:0/")):
            with self.subTest(text):
                url, kept = parse(text), list(values)
                found = walked(url=url, values=values)
                self.assertEqual((str(found), str(url), values), (behind, text, kept))
                self.assertEqual(parts_of(found), parts_of(parse(behind)))

    def test_the_index_of_the_first_step_that_is_not_possible(self):
        self.assert_place("ab:", [("lower", 0)], 0)
        self.assert_place("AB:", [("lower", 0), ("lower", 0)], 1)
        self.assert_place("AB:", [("lower", 0), ("lower", 0), ("lower", 0), ("lower", 1)], 1)
        self.assert_place("AB:", [("lower", 0), ("lower", 1), ("lower", 2)], 2)
        self.assert_place("s:/./^2e/", [("dot", 2), ("dot", 2), None], 1)
        self.assert_place("s:/./^2e/", [("dot", 2), ("unescape", 3), ("dot", 2), None], 3)

    def test_any_values_as_steps(self):
        for value in ANY_VALUES:
            self.assert_place("AB:", [value], 0)
            self.assert_place("AB:", [("lower", 0), value, ("lower", 1)], 1)
            self.assert_place("AB:", [("lower", 0), ("lower", 1), value, value], 2)

    def test_texts_of_all_shapes_against_the_second_reading(self):
        chance = random.Random(2)
        rows = [*itertools.product(RULES, range(9))]
        for text in ("AB:", "S://@H:0", "/./^2e/..", "//^41:00", "s:/a/../b", "HTTP://h:080/a/..//b", B):
            for _ in range(200):
                values = [chance.choice(rows if chance.random() < 0.3 else list(second_steps.all_steps(text)) or rows)
                          for _ in range(chance.randrange(5))]
                wanted = second_walk(text, values)
                if isinstance(wanted, int):
                    self.assert_place(text, values, wanted)
                else:
                    self.assertEqual(str(walked(parse(text), values)), wanted)


class LongLists(unittest.TestCase):
    def test_thousands_of_steps(self):
        for text in ("s://h/" + "^7e^c3x" * 1000, "s:/" + "a/../" * 1000, "/." * 2500, "s:/.//" + "x/" * 900 + "../" * 905,
                     "s:/" + "^2e^2e/" * 1000):
            with self.subTest(text[:20]):
                self.assertTrue(is_url(text))
                url, end = parse(text), normal(parse(text))
                found = paper(url, end)
                self.assertTrue(walked(url, found[0]) == end)
                self.assertEqual(shown(url, end, found), "alike")
                self.assertEqual(shown(end, url, found[::-1]), "alike")
                self.assertEqual(shown(url, parse("s:"), (found[0], [])), "unlike")
                self.assertIsNone(shown(url, parse("s:"), (found[0][:-1], [])))
                with self.assertRaises(BadStep) as caught:
                    walked(url, found[0] + [("lower", 0)])
                self.assertEqual(caught.exception.place, len(found[0]))
                self.assertEqual(steps(end), [])


if __name__ == "__main__":
    unittest.main()
