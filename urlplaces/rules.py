"""Single steps, normal forms and papers [11, 12]."""

from urlplaces.changes import change, is_needless, parts_of, starts_of
from urlplaces.errors import BadStep
from urlplaces.escapes import plainer
from urlplaces.joining import cleaned
from urlplaces.kinds import is_integer
from urlplaces.parts import Url
from urlplaces.ways import way

RULES = ("lower", "upper", "unescape", "user", "port", "slash", "dot")

# Each rule is tried only at these signs, because that is much quicker, and at the end of the text.
SIGNS = {
    "lower": "ABCDEFGHIJKLMNOPQRSTUVWXYZ",
    "upper": "abcdef",
    "unescape": "^",
    "user": "@",
    "port": ":0",
    "slash": "?#",
    "dot": "/",
}


def steps(url):
    """All steps that are possible, ascending by index, then in the order of the rules."""
    text = str(url)
    parts = parts_of(url)
    starts = starts_of(parts)
    found = []
    for index in range(len(text) + 1):
        sign = text[index:index + 1]
        for rule in RULES:
            if sign in SIGNS[rule] and change(parts, starts, rule, index) is not None:
                found.append((rule, index))
    return found


def after(url, step):
    """The URL behind a step."""
    if not _is_step(step):
        raise BadStep(None)
    rule, index = step
    parts = parts_of(url)
    changed = change(parts, starts_of(parts), rule, index)
    if changed is None:
        raise BadStep(None)
    number, part = changed
    return Url(parts[:number] + (part,) + parts[number + 1:])


def normal(url):
    """The normal form: the URL at which steps end."""
    scheme = None if url.scheme is None else url.scheme.lower()
    path = plainer(url.path)
    if path == "" and url.has_authority:
        path = "/"
    return Url.of(
        scheme=scheme,
        user=_plainer_if_there(url.user) or None,
        host=_normal_host(url.host),
        port=_normal_port(scheme, url.port),
        path=cleaned(path, has_authority=url.has_authority),
        query=_plainer_if_there(url.query),
        fragment=_plainer_if_there(url.fragment),
    )


def alike(one, other):
    """Whether two URLs have the same normal form."""
    return normal(one) == normal(other)


def paper(one, other):
    """A paper that shows whether two URLs are alike: it leads both to their normal forms."""
    return (way(one), way(other))


def _is_step(value):
    """Whether any value is a tuple of the word of a rule and an integer."""
    if not isinstance(value, tuple) or len(value) != 2:
        return False
    rule, index = value
    return isinstance(rule, str) and rule in RULES and is_integer(index)


def _plainer_if_there(part):
    return None if part is None else plainer(part)


def _normal_host(host):
    if host is None:
        return None
    pieces = plainer(host).split("^")
    # The capital letters of escapes stay.
    return "^".join([pieces[0].lower()] + [piece[:2] + piece[2:].lower() for piece in pieces[1:]])


def _normal_port(scheme, port):
    if port is None:
        return None
    # One digit stays, also of a port of zeros.
    short = port[:-1].lstrip("0") + port[-1:]
    return None if is_needless(scheme, short) else short
