"""What a single step changes in a URL [11]."""

from urlplaces.escapes import plainer

# The places of the parts in the tuple of all parts, in the order of [6].
SCHEME = 0
USER = 1
HOST = 2
PORT = 3
PATH = 4

# What stands in the text before and behind a part that is present; "//" is apart.
BEFORE = ("", "", "", ":", "", "?", "#")
BEHIND = (":", "@", "", "", "", "", "")

CAPITALS = "ABCDEFGHIJKLMNOPQRSTUVWXYZ"
SMALL_IN_ESCAPES = "abcdef"
DOTS = (".", "..")

USUAL_PORTS = {"http": "80", "https": "443", "ftp": "21"}


def parts_of(url):
    """All parts of a URL."""
    return (url.scheme, url.user, url.host, url.port, url.path, url.query, url.fragment)


def starts_of(parts):
    """The index in the text at which each part stands; an absent part has that of what follows."""
    starts = []
    at = 0
    for number, part in enumerate(parts):
        if number == USER and parts[HOST] is not None:
            at += len("//")
        if part is None:
            starts.append(at)
        else:
            at += len(BEFORE[number])
            starts.append(at)
            at += len(part) + len(BEHIND[number])
    return starts


def _lower(parts, starts, index):
    number, at = _holder(parts, starts, index)
    if number not in (SCHEME, HOST):
        return None
    part = parts[number]
    if part[at] not in CAPITALS or _is_in_escape(part, at):
        return None
    return (number, part[:at] + part[at].lower() + part[at + 1:])


def _upper(parts, starts, index):
    number, at = _holder(parts, starts, index)
    if number is None:
        return None
    part = parts[number]
    if part[at] not in SMALL_IN_ESCAPES or not _is_in_escape(part, at):
        return None
    return (number, part[:at] + part[at].upper() + part[at + 1:])


def _unescape(parts, starts, index):
    number, at = _holder(parts, starts, index)
    if number is None:
        return None
    part = parts[number]
    sign = plainer(part[at:at + 3]) if part[at] == "^" else ""
    return (number, part[:at] + sign + part[at + 3:]) if len(sign) == 1 else None


def _user(parts, starts, index):
    if parts[USER] == "" and index == starts[USER]:
        return (USER, None)
    return None


def _port(parts, starts, index):
    port = parts[PORT]
    if port is None:
        return None
    if index == starts[PORT] and len(port) > 1 and port.startswith("0"):
        return (PORT, port[1:])
    if index == starts[PORT] - 1 and is_needless(parts[SCHEME], port):
        return (PORT, None)
    return None


def _slash(parts, starts, index):
    if parts[PATH] == "" and parts[HOST] is not None and index == starts[PATH]:
        return (PATH, "/")
    return None


def _dot(parts, starts, index):
    path = path_behind_dot(parts[PATH], index - starts[PATH], parts[HOST] is not None)
    return None if path is None else (PATH, path)


# Each takes all parts, where they start, and an index of the text; it gives the place of the part that
# the step changes and what it becomes, or None if the step is not possible.
CHANGES = {
    "lower": _lower,
    "upper": _upper,
    "unescape": _unescape,
    "user": _user,
    "port": _port,
    "slash": _slash,
    "dot": _dot,
}


def change(parts, starts, rule, index):
    """The part that the step (rule, index) changes, and what it becomes, or None if it is not possible."""
    found = CHANGES[rule]
    return found(parts, starts, index)


def is_needless(scheme, port):
    """Whether a port disappears with its ":"."""
    return port == "" or USUAL_PORTS.get(scheme) == port


def path_behind_dot(path, at, has_authority):
    """The path without the dot segment behind the "/" at this index, or None if the step is not possible."""
    if not path.startswith("/") or not 0 <= at < len(path) or path[at] != "/":
        return None
    segment = path[at + 1:].partition("/")[0]
    before_at = place_before(path, at)
    if segment not in DOTS or plainer(path[before_at + 1:at]) in DOTS:
        return None
    kept = path[:at] if segment == "." else path[:before_at]
    rest = path[at + 1 + len(segment):] or "/"
    if (kept + rest).startswith("//") and not has_authority:
        kept = "/." + kept
    return None if kept + rest == path else kept + rest


def place_before(path, at):
    """The index of the "/" before the one at this index; 0 for the first one."""
    return max(0, path.rfind("/", 0, at))


def _holder(parts, starts, index):
    """The place of the part that has the sign at this index of the text, and its index in the part."""
    for number, part in enumerate(parts):
        at = index - starts[number]
        if part is not None and 0 <= at < len(part):
            return (number, at)
    return (None, None)


def _is_in_escape(part, at):
    """Whether a letter at this index is one of the two behind a "^"."""
    return "^" in part[max(0, at - 2):at]
