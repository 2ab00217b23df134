"""Which signs may stand in the parts of a URL [4, 5], and where the first wrong one is."""

from urlplaces.escapes import HEXADECIMAL, begins_with_octet, signs_of

LETTERS = "ABCDEFGHIJKLMNOPQRSTUVWXYZabcdefghijklmnopqrstuvwxyz"
DIGITS = "0123456789"

PORT_DIGITS = 5
GREATEST_PORT = 65535


def wrong_place(name, text):
    """The kind and the index of the first wrong place in the part with this name, or None."""
    if name == "scheme":
        return _wrong_in_scheme(text)
    if name == "port":
        return _wrong_in_port(text)
    if name == "host" and text.startswith("["):
        return _wrong_in_brackets(text)
    return _wrong_among(text, signs_of(name))


def _wrong_in_scheme(text):
    if text == "" or text[0] not in LETTERS:
        return ("scheme", 0)
    at = _first_other(text, LETTERS + DIGITS + "+-.")
    return ("scheme", at) if at < len(text) else None


def _wrong_in_port(text):
    at = _first_other(text[:PORT_DIGITS], DIGITS)
    if at == PORT_DIGITS and int(text[:PORT_DIGITS]) > GREATEST_PORT:
        return ("port", 0)
    # Here is the first sign that is no digit, or the one behind five digits.
    return ("port", at) if at < len(text) else None


def _wrong_in_brackets(host):
    at = 1 + _first_other(host[1:], HEXADECIMAL + ":.")
    if at == 1 or host[at:at + 1] != "]":
        return ("host", at)
    return ("host", at + 1) if at + 1 < len(host) else None


def _wrong_among(text, signs):
    """The first wrong place in a text of these signs and of escapes, or None."""
    start = 0
    for number, piece in enumerate(text.split("^")):
        if number > 0 and not begins_with_octet(piece):
            return ("escape", start - 1)
        at = _first_other(piece, signs)
        if at < len(piece):
            return ("sign", start + at)
        start = start + len(piece) + 1
    return None


def _first_other(text, signs):
    """The index of the first sign that is none of these, or the length of the text."""
    return len(text) - len(text.lstrip(signs))
