"""Queries as ordered lists of pairs [14]."""

from urlplaces.errors import BadQuery
from urlplaces.escapes import ESCAPE_SIZE, escaped, octets, pieces_of

# The signs that an escape in a query may denote: from the space to "~", without the one with the code 37.
SIGNS = " !\"#$&'()*+,-./0123456789:;<=>?@ABCDEFGHIJKLMNOPQRSTUVWXYZ[\\]^_`abcdefghijklmnopqrstuvwxyz{|}~"

# The signs that stand for themselves beside the plain ones.
KEPT_IN_KEYS = "!$'()*+,;:@/?"
KEPT_IN_VALUES = "!$'()*+,;:@/?="


def pairs(query):
    """The pairs (key, value) of a query; without a "=" the value is None."""
    if query == "":
        return []
    signs = {ord(sign): sign for sign in SIGNS}
    for place, piece in pieces_of(query):
        if len(piece) == ESCAPE_SIZE and int(piece[1:], 16) not in signs:
            raise BadQuery(place)
    return [_pair(item, signs) for item in query.split("&")]


def query_of(items):
    """The query of a list of pairs."""
    return "&".join([_item(key, value) for key, value in items])


def values_of(query, key, *, default=()):
    """The values of all pairs with this key, or the default if there is none."""
    found = [value for name, value in pairs(query) if name == key]
    return tuple(found) if len(found) > 0 else default


def _pair(item, signs):
    key, mark, value = item.partition("=")
    return (_read(key, signs), _read(value, signs) if mark else None)


def _read(text, signs):
    return "".join([signs[number] for number in octets(text)])


def _item(key, value):
    text = _written(key, KEPT_IN_KEYS)
    return text if value is None else f"{text}={_written(value, KEPT_IN_VALUES)}"


def _written(text, keep):
    # The codes of the signs, not what octets() tells: a "^" in a key or a value is a sign like any other.
    return escaped([ord(sign) for sign in text], keep=keep)
