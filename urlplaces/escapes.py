"""Signs, octets and escapes [4, 5]."""

from urlplaces.errors import BadEscape, NoOctet, NoText
from urlplaces.kinds import is_integer

PLAIN = "-.0123456789ABCDEFGHIJKLMNOPQRSTUVWXYZ_abcdefghijklmnopqrstuvwxyz~"
INNER = "!$&'()*+,;="
HEXADECIMAL = "0123456789ABCDEFabcdef"

# The signs of each part that may have escapes, beside plain and inner signs.
MORE = {"user": ":", "host": "", "path": ":@/", "query": ":@/?", "fragment": ":@/?"}

ESCAPE_SIZE = 3
GREATEST_OCTET = 255


def octets(text):
    """The octets that the signs and the escapes of a text denote."""
    if not isinstance(text, str):
        raise NoText(text)
    numbers = []
    for place, piece in pieces_of(text):
        if piece == "^":
            raise BadEscape(place)
        numbers.append(int(piece[1:], 16) if len(piece) == ESCAPE_SIZE else ord(piece))
    return numbers


def escaped(numbers, *, keep=""):
    """The text of these octets, with escapes for all but plain signs and the signs to keep."""
    signs = {ord(sign): sign for sign in PLAIN + keep if sign != "^"}
    pieces = []
    for place, number in enumerate(numbers):
        if not _is_octet(number):
            raise NoOctet(place)
        pieces.append(signs.get(number, _escape(number)))
    return "".join(pieces)


def mended(text, name):
    """The text with escapes for all signs that may not stand in the part with this name."""
    signs = signs_of(name)
    pieces = []
    for _, piece in pieces_of(text):
        may_stand = len(piece) == ESCAPE_SIZE or piece in signs
        pieces.append(piece if may_stand else _escape(ord(piece)))
    return "".join(pieces)


def signs_of(name):
    """The signs that may stand, beside escapes, in the part with this name."""
    return PLAIN + INNER + MORE[name]


def begins_with_octet(text):
    """Whether a text that stands behind a "^" makes it an escape."""
    return len(text) > 1 and text[0] in HEXADECIMAL and text[1] in HEXADECIMAL


def plainer(text):
    """The text of a part without escapes of plain signs, and with capital letters in the others."""
    if "^" not in text:
        return text
    signs = {ord(sign): sign for sign in PLAIN}
    pieces = text.split("^")
    plain = [pieces[0]]
    for piece in pieces[1:]:
        number = int(piece[:2], 16)
        plain.append(signs.get(number, _escape(number)) + piece[2:])
    return "".join(plain)


def pieces_of(text):
    """The signs and the escapes of a text, each with its index; a "^" that begins no escape is a sign."""
    found = []
    at = 0
    while at < len(text):
        is_escape = text[at] == "^" and begins_with_octet(text[at + 1:at + ESCAPE_SIZE])
        piece = text[at:at + ESCAPE_SIZE] if is_escape else text[at]
        found.append((at, piece))
        at += len(piece)
    return found


def _escape(number):
    return f"^{number:02X}"


def _is_octet(value):
    return is_integer(value) and 0 <= value <= GREATEST_OCTET
