"""A second reading of points [4] to [9], written with other means than the program."""

import re

NAMES = ("scheme", "user", "host", "port", "path", "query", "fragment")

SHAPE = re.compile(r"(?:([^:/?#]*):)?(?://([^/?#]*))?([^?#]*)(?:\?([^#]*))?(?:#(.*))?", re.DOTALL)
AUTHORITY = re.compile(r"(?:([^@]*)@)?(\[[^\]]*\]?|[^:]*)(.*)", re.DOTALL)
ESCAPE = re.compile(r"\^[0-9A-Fa-f]{2}")
COMMON = r"A-Za-z0-9\-._~!$&'()*+,;="
MAY_STAND = {
    "user": re.compile(f"[{COMMON}:]"),
    "host": re.compile(f"[{COMMON}]"),
    "path": re.compile(f"[{COMMON}:@/]"),
    "query": re.compile(f"[{COMMON}:@/?]"),
    "fragment": re.compile(f"[{COMMON}:@/?]"),
}
WHOLE = {
    "scheme": re.compile(r"[A-Za-z][A-Za-z0-9+\-.]*"),
    "user": re.compile(rf"(?:[{COMMON}:]|\^[0-9A-Fa-f]{{2}})*"),
    "host": re.compile(rf"\[[0-9A-Fa-f:.]+\]|(?:[{COMMON}]|\^[0-9A-Fa-f]{{2}})*"),
    "port": re.compile(r"[0-9]{0,5}"),
    "path": re.compile(rf"(?:[{COMMON}:@/]|\^[0-9A-Fa-f]{{2}})*"),
    "query": re.compile(rf"(?:[{COMMON}:@/?]|\^[0-9A-Fa-f]{{2}})*"),
    "fragment": re.compile(rf"(?:[{COMMON}:@/?]|\^[0-9A-Fa-f]{{2}})*"),
}


def read(text):
    """The dict of all parts of a text, or the tuple (kind, place) of its first wrong place."""
    shape = SHAPE.fullmatch(text)
    parts = dict(zip(NAMES, [None] * 7))
    parts["scheme"], authority, parts["path"], parts["query"], parts["fragment"] = shape.groups()
    wrong = []
    if parts["scheme"] is not None:
        wrong.extend(wrong_in_scheme(parts["scheme"]))
    if authority is not None:
        wrong.extend(read_authority(authority, shape.start(2), parts))
    for name, group in (("path", 3), ("query", 4), ("fragment", 5)):
        if parts[name] is not None:
            wrong.extend(wrong_signs(parts[name], shape.start(group), name))
    if wrong:
        place, kind = min(wrong)
        return kind, place
    return parts


def read_authority(text, start, parts):
    """Enters the parts of an authority, and returns all its wrong places."""
    shape = AUTHORITY.fullmatch(text)
    parts["user"], parts["host"], rest = shape.groups()
    wrong = []
    if parts["user"] is not None:
        wrong.extend(wrong_signs(parts["user"], start, "user"))
    at = start + shape.start(2)
    if parts["host"].startswith("["):
        wrong.extend(wrong_in_brackets(parts["host"], at))
    else:
        wrong.extend(wrong_signs(parts["host"], at, "host"))
    at = start + shape.start(3)
    if rest.startswith(":"):
        parts["port"] = rest[1:]
        wrong.extend(wrong_in_port(rest[1:], at + 1))
    elif rest:
        wrong.append((at, "host"))
    return wrong


def wrong_in_scheme(text):
    if text == "":
        return [(0, "scheme")]
    places = [at for at, sign in enumerate(text) if not re.match(r"[A-Za-z0-9+\-.]", sign)]
    if not re.match("[A-Za-z]", text):
        places.append(0)
    return [(at, "scheme") for at in places]


def wrong_in_brackets(text, start):
    inside = text[1:]
    if not inside.endswith("]"):
        inside, wrong = inside + "]", [(start + len(text), "host")]
    elif inside == "]":
        wrong = [(start + 1, "host")]
    else:
        wrong = []
    for at, sign in enumerate(inside[:-1]):
        if not re.match("[0-9A-Fa-f:.]", sign):
            wrong.append((start + 1 + at, "host"))
    return wrong


def wrong_in_port(text, start):
    wrong = [(start + at, "port") for at, sign in enumerate(text) if not re.match("[0-9]", sign) or at == 5]
    first = re.match("[0-9]{5}", text)
    if first and int(first.group()) > 65535:
        wrong.append((start, "port"))
    return wrong


def wrong_signs(text, start, name):
    wrong = []
    for at, sign in enumerate(text):
        if sign == "^":
            if not ESCAPE.match(text, at):
                wrong.append((start + at, "escape"))
        elif not MAY_STAND[name].match(sign):
            wrong.append((start + at, "sign"))
    return wrong


def written(parts):
    """The text of parts."""
    marks = (("scheme", "", ":"), ("user", "", "@"), ("host", "", ""), ("port", ":", ""),
             ("path", "", ""), ("query", "?", ""), ("fragment", "#", ""))
    text = ""
    for name, before, behind in marks:
        if name == "user" and parts["host"] is not None:
            text += "//"
        if parts[name] is not None:
            text += before + parts[name] + behind
    return text


def bad_part(parts):
    """The name that BadPart tells for parts of any values, or None."""
    for name in NAMES:
        value = parts[name]
        if value is None and name != "path":
            continue
        if not isinstance(value, str) or not WHOLE[name].fullmatch(value):
            return name
        if name == "port" and value and int(value) > 65535:
            return name
    if parts["host"] is None:
        for name in ("user", "port"):
            if parts[name] is not None:
                return name
    # Parts are possible exactly if their text is read as the same parts again.
    return None if read(written(parts)) == parts else "path"


def without_dots(path):
    """A path that begins with "/" without its dot segments, by rewriting its beginning."""
    left, done = path, ""
    while left:
        if left.startswith("/./") or left == "/.":
            left = "/" + left[3:]
        elif left.startswith("/../") or left == "/..":
            left = "/" + left[4:]
            done = re.sub("/[^/]*$", "", done)
        else:
            first = re.match("/[^/]*", left).group()
            done, left = done + first, left[len(first):]
    return done


def joined(base, reference):
    """The parts to which the parts of a reference lead from those of a base."""
    result = dict(reference)
    if reference["scheme"] is None:
        result["scheme"] = base["scheme"]
        if reference["host"] is None:
            for name in ("user", "host", "port"):
                result[name] = base[name]
            if reference["path"] == "":
                result["path"] = base["path"]
                if reference["query"] is None:
                    result["query"] = base["query"]
                return result
            if not reference["path"].startswith("/"):
                result["path"] = re.sub("[^/]*$", "", base["path"] or "/") + reference["path"]
    if result["path"].startswith("/"):
        result["path"] = without_dots(result["path"])
        if result["path"].startswith("//") and result["host"] is None:
            result["path"] = "/." + result["path"]
    return result
