"""Steps that lead from a URL to its normal form [11]."""

from urlplaces.changes import (
    CAPITALS, HOST, PATH, PORT, SCHEME, SMALL_IN_ESCAPES, USER,
    is_needless, parts_of, path_behind_dot, place_before, starts_of)
from urlplaces.escapes import PLAIN, plainer


def way(url):
    """Steps that lead from a URL to its normal form."""
    found = _escape_steps(str(url))
    # From here on the parts are as these steps leave them.
    parts = [None if part is None else plainer(part) for part in parts_of(url)]
    starts = starts_of(parts)
    for number in (SCHEME, HOST):
        found.extend(_lower_steps(parts[number] or "", starts[number]))
    # From the end of the text to its beginning, so that no step moves what a later one changes.
    if parts[PATH] == "" and parts[HOST] is not None:
        found.append(("slash", starts[PATH]))
    found.extend(_dot_steps(parts[PATH], starts[PATH], parts[HOST] is not None))
    if parts[PORT] is not None:
        found.extend(_port_steps((parts[SCHEME] or "").lower(), parts[PORT], starts[PORT]))
    if parts[USER] == "":
        found.append(("user", starts[USER]))
    return found


def _escape_steps(text):
    """The steps for all escapes of a text, the last escape first."""
    found = []
    at = text.rfind("^")
    while at >= 0:
        if plainer(text[at:at + 3]) in PLAIN:
            found.append(("unescape", at))
        else:
            found.extend([("upper", place) for place in (at + 1, at + 2) if text[place] in SMALL_IN_ESCAPES])
        at = text.rfind("^", 0, at)
    return found


def _lower_steps(part, start):
    """The steps for the capital letters of the scheme or the host that are not in an escape."""
    found = []
    at = 0
    while at < len(part):
        if part[at] in CAPITALS:
            found.append(("lower", start + at))
        at += 3 if part[at] == "^" else 1
    return found


def _port_steps(scheme, port, start):
    found = []
    while len(port) > 1 and port.startswith("0"):
        found.append(("port", start))
        port = port[1:]
    if is_needless(scheme, port):
        found.append(("port", start - 1))
    return found


def _dot_steps(path, start, has_authority):
    """The steps for the dot segments of a path, from the left to the right."""
    found = []
    at = 0
    while at >= 0:
        behind = path_behind_dot(path, at, has_authority)
        if behind is None:
            at = path.find("/", at + 1)
        else:
            found.append(("dot", start + at))
            at = _place_after_dot(path, at)
            path = behind
    return found


def _place_after_dot(path, at):
    """The index from which a path is looked through, behind the step for the dot segment at this index."""
    kept = place_before(path, at) if path.startswith("/..", at) else at
    # The "." that stands in front of "//" without an authority may have become possible.
    return 0 if kept <= len("/.") else kept
