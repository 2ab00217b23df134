"""How a text is parsed [7]."""

from urlplaces.errors import BadUrl, NoText
from urlplaces.parts import Url
from urlplaces.signs import wrong_place


def parse(text):
    """The URL with this text."""
    if not isinstance(text, str):
        raise NoText(text)
    parts = {}
    # The parts come from left to right, so the first wrong one has the least wrong place.
    for name, start, part in _split(text):
        wrong = wrong_place(name, part)
        if wrong is not None:
            kind, at = wrong
            raise BadUrl(kind, start + at)
        parts[name] = part
    return Url.of(**parts)


def is_url(value):
    """Whether any value is the text of a URL."""
    try:
        parse(value)
    except (NoText, BadUrl):
        return False
    return True


def _split(text):
    """The parts that are present, from left to right: name, index and text of each."""
    before_fragment, fragment_mark, fragment = text.partition("#")
    before_query, query_mark, query = before_fragment.partition("?")
    rows = _split_beginning(before_query)
    if query_mark:
        rows.append(("query", len(before_query) + 1, query))
    if fragment_mark:
        rows.append(("fragment", len(before_fragment) + 1, fragment))
    return rows


def _split_beginning(text):
    """The rows of scheme, authority and path."""
    rows = []
    start = 0
    if ":" in text.partition("/")[0]:
        colon = text.find(":")
        rows.append(("scheme", 0, text[:colon]))
        start = colon + 1
    if text[start:start + 2] == "//":
        authority = text[start + 2:].partition("/")[0]
        rows.extend(_split_authority(authority, start + 2))
        start = start + 2 + len(authority)
    rows.append(("path", start, text[start:]))
    return rows


def _split_authority(text, start):
    """The rows of user, host and port, in an authority that begins at the index `start`."""
    rows = []
    host_at = text.find("@") + 1
    if host_at > 0:
        rows.append(("user", start, text[:host_at - 1]))
    colon = _end_of_host(text, host_at)
    rows.append(("host", start + host_at, text[host_at:colon]))
    if colon < len(text):
        rows.append(("port", start + colon + 1, text[colon + 1:]))
    return rows


def _end_of_host(text, host_at):
    """The index of the ":" behind the host, or of the end of the authority."""
    if text[host_at:host_at + 1] != "[":
        colon = text.find(":", host_at)
        return colon if colon >= 0 else len(text)
    bracket = text.find("]", host_at)
    if bracket >= 0 and text[bracket + 1:bracket + 2] == ":":
        return bracket + 1
    # What wrongly follows the "]" is left to the host, in which it is the wrong place.
    return len(text)
