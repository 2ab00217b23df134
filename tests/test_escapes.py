"""PLAIN, INNER, octets, escaped and mended [4, 5]."""

import string
import unittest

import second_reading
import second_steps
from common import NO_STRINGS, all_texts
from urlplaces.errors import BadEscape, NoOctet, NoText
from urlplaces.escapes import INNER, PLAIN, escaped, mended, octets, plainer
from urlplaces.parsing import parse
from urlplaces.parts import Url

PRINTABLE = "".join(map(chr, range(32, 127)))
NO_OCTETS = (-1, 256, -10 ** 59, 10 ** 59, True, False, None, "", "a", "97", b"a", (), (97,), [], [97], {}, {97: 97},
             parse("a"))
MENDED_NAMES = ("user", "host", "path", "query", "fragment")


class Signs(unittest.TestCase):
    def test_plain_signs(self):
        self.assertEqual(PLAIN, "".join(sorted(string.ascii_letters + string.digits + "-._~")))

    def test_inner_signs(self):
        self.assertEqual(INNER, "".join(sorted("!$&'()*+,;=")))


class Octets(unittest.TestCase):
    def assert_bad(self, text, place):
        with self.subTest(text):
            with self.assertRaises(BadEscape) as caught:
                octets(text)
            self.assertEqual(caught.exception.place, place)

    def test_of_the_interface(self):
        self.assertEqual(octets("a^4a^ff"), [97, 74, 255])

    def test_signs(self):
        self.assertEqual(octets(""), [])
        self.assertEqual(octets("az AZ09%~\n"), [97, 122, 32, 65, 90, 48, 57, 37, 126, 10])
        for sign in PRINTABLE.replace("^", "") + "\n":
            self.assertEqual(octets(sign), [ord(sign)])

    def test_every_escape_with_small_and_capital_letters(self):
        for number in range(256):
            digits = f"{number:02x}"
            for text in (digits, digits.upper(), digits[0].upper() + digits[1], digits[0] + digits[1].upper()):
                self.assertEqual(octets("^" + text), [number])
                self.assertEqual(octets(f"4^{text}5"), [52, number, 53])

    def test_an_escaped_escape_sign(self):
        self.assertEqual(octets("^5e41"), [94, 52, 49])
        self.assertEqual(octets("^5E^41"), [94, 65])

    def test_wrong_escapes(self):
        for text, place in (("^", 0), ("^4", 0), ("^g1", 0), ("^1g", 0), ("^ 1", 0), ("^1 ", 0), ("a^", 1), ("a^f", 1),
                            ("^41^", 3), ("^41^4", 3), ("^^41", 0), ("^4^41", 0), ("ab^-1^", 2), ("^+1", 0), ("^0x", 0),
                            ("^1_", 0), ("^\n1", 0)):
            self.assert_bad(text, place)

    def test_the_first_wrong_escape_counts(self):
        self.assert_bad("^41a^4x^", 4)
        self.assert_bad("^^", 0)

    def test_any_values(self):
        for value in NO_STRINGS:
            with self.subTest(value):
                with self.assertRaises(NoText) as caught:
                    octets(value)
                self.assertIs(caught.exception.value, value)

    def test_each_list_is_new(self):
        found = octets("ab")
        found.append(0)
        self.assertEqual(octets(text="ab"), [97, 98])

    def test_all_short_texts_against_the_second_reading(self):
        for text in all_texts("^14aFg", 5):
            wrong = second_reading.wrong_signs(text, 0, "path")
            if wrong:
                self.assert_bad(text, wrong[0][0])
            else:
                found = "".join(map(chr, octets(text)))
                self.assertEqual(found, second_steps.ESCAPE.sub(lambda each: chr(int(each.group(1), 16)), text))

    def test_long_texts(self):
        self.assertEqual(octets("^4a." * 4000), [74, 46] * 4000)
        self.assert_bad("^4a" * 4000 + "^", 12000)


class Escaped(unittest.TestCase):
    def assert_no_octet(self, numbers, place):
        with self.subTest(numbers):
            with self.assertRaises(NoOctet) as caught:
                escaped(numbers)
            self.assertEqual(caught.exception.place, place)

    def test_of_the_interface(self):
        self.assertEqual(escaped([97, 32, 47, 255], keep="/"), "a^20/^FF")

    def test_every_octet(self):
        for number in range(256):
            sign = chr(number)
            wanted = sign if sign in string.ascii_letters + string.digits + "-._~" else f"^{number:02X}"
            self.assertEqual(escaped([number]), wanted)
            self.assertEqual(octets(wanted), [number])

    def test_all_octets_together(self):
        text = escaped(list(range(256)))
        self.assertEqual(octets(text), list(range(256)))
        self.assertEqual(escaped(octets(text)), text)

    def test_signs_to_keep(self):
        for sign in PRINTABLE.replace("^", "") + "\n":
            with self.subTest(sign):
                self.assertEqual(escaped([97, ord(sign), 255], keep=sign), f"a{sign}^FF")
                self.assertEqual(escaped([97, ord(sign)], keep="x" + sign + sign + "y"), "a" + sign)
        self.assertEqual(escaped(list(range(32, 127)), keep=PRINTABLE), PRINTABLE.replace("^", "^5E"))

    def test_the_escape_sign_is_never_kept(self):
        for keep in ("^", "a^b", "^^", PRINTABLE):
            self.assertEqual(escaped([94, 97, 94], keep=keep), "^5Ea^5E")

    def test_nothing_to_keep(self):
        self.assertEqual(escaped([]), "")
        self.assertEqual(escaped([47, 33], keep=""), "^2F^21")
        self.assertEqual(escaped([47, 33]), "^2F^21")
        self.assertEqual(escaped([], keep="/"), "")

    def test_items_that_are_no_octets(self):
        for value in NO_OCTETS:
            self.assert_no_octet([value], 0)
            self.assert_no_octet([0, 255, value], 2)

    def test_the_first_such_item_counts(self):
        for value in NO_OCTETS:
            self.assert_no_octet([1, value, 2, None, -1], 1)

    def test_arguments(self):
        self.assertEqual(escaped(numbers=[97, 47], keep="/"), "a/")
        with self.assertRaises(TypeError):
            escaped([97], "/")

    def test_the_list_stays(self):
        numbers = [97, 32, 94]
        escaped(numbers, keep="^ ")
        self.assertEqual(numbers, [97, 32, 94])
        wrong = [97, None]
        self.assert_no_octet(wrong, 1)
        self.assertEqual(wrong, [97, None])

    def test_long_lists(self):
        self.assertEqual(escaped([97, 32] * 4000), "a^20" * 4000)


class Mended(unittest.TestCase):
    def test_of_the_interface(self):
        self.assertEqual(mended("x y^2/^2f?", "path"), "x^20y^5E2/^2f^3F")

    def test_every_sign_in_each_part(self):
        common = set(string.ascii_letters + string.digits + "-._~!$&'()*+,;=")
        more = {"user": ":", "host": "", "path": ":@/", "query": ":@/?", "fragment": ":@/?"}
        for name in MENDED_NAMES:
            for sign in PRINTABLE:
                with self.subTest((name, sign)):
                    wanted = sign if sign in common | set(more[name]) else f"^{ord(sign):02X}"
                    self.assertEqual(mended(sign, name), wanted)
                    self.assertEqual(mended(f"a{sign}b", name), f"a{wanted}b")

    def test_escapes_stay_as_they_are(self):
        for name in MENDED_NAMES:
            self.assertEqual(mended("^2f^2F^aF^00^41", name), "^2f^2F^aF^00^41")

    def test_escape_signs_that_begin_no_escape(self):
        for text, wanted in (("^", "^5E"), ("^4", "^5E4"), ("^4g", "^5E4g"), ("^g4", "^5Eg4"), ("^^41", "^5E^41"),
                             ("^4^41", "^5E4^41"), ("^^", "^5E^5E"), ("a^", "a^5E"), ("^41^", "^41^5E"),
                             ("^ 1", "^5E^201"), ("^1 ", "^5E1^20"), ("^5E41", "^5E41")):
            for name in MENDED_NAMES:
                with self.subTest(text):
                    self.assertEqual(mended(text, name), wanted)

    def test_brackets_are_escaped_in_a_host_too(self):
        self.assertEqual(mended("[1]", "host"), "^5B1^5D")

    def test_mended_twice(self):
        for name in MENDED_NAMES:
            once = mended(PRINTABLE + "^4^^4g^41" + PRINTABLE, name)
            self.assertEqual(mended(once, name), once)

    def test_arguments_by_name(self):
        self.assertEqual(mended(text="?", name="query"), "?")

    def test_all_short_texts_against_the_second_reading(self):
        for text in all_texts("^4aG/?:@#[ ", 4):
            for name in MENDED_NAMES:
                found = mended(text, name)
                self.assertEqual(found, second_steps.mended(text, name))
                self.assertEqual(mended(found, name), found)
                self.assertTrue(second_reading.WHOLE[name].fullmatch(found))

    def test_a_mended_text_can_be_the_part(self):
        for name in MENDED_NAMES:
            text = mended(PRINTABLE, name)
            parts = {"host": "h", "path": "/", name: "/" + text if name == "path" else text}
            self.assertTrue(getattr(Url.of(**parts), name).endswith(text))

    def test_long_texts(self):
        self.assertEqual(mended("^4 ^41" * 2000, "path"), "^5E4^20^41" * 2000)


class Plainer(unittest.TestCase):
    """What normal forms are made with: escapes of plain signs are replaced, the others get capital letters."""

    def test_every_escape(self):
        for number in range(256):
            wanted = chr(number) if chr(number) in PLAIN else f"^{number:02X}"
            for text in (f"^{number:02x}", f"^{number:02X}"):
                self.assertEqual(plainer(f"4{text}a{text}"), f"4{wanted}a{wanted}")

    def test_other_signs_stay(self):
        for text in ("", "a", "/a:b@", "aBc"):
            self.assertEqual(plainer(text), text)
        self.assertEqual(plainer("x^c3y^41^2E^2f"), "x^C3yA.^2F")


if __name__ == "__main__":
    unittest.main()
