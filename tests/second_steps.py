"""A second reading of points [4], [5] and [11], written on texts and with other means than the program."""

import re

import second_reading

RULES = ("lower", "upper", "unescape", "user", "port", "slash", "dot")
PLAIN_SIGN = re.compile(r"[A-Za-z0-9\-._~]")
ESCAPE = re.compile(r"\^([0-9A-Fa-f]{2})")
MARKED = re.compile(r"\^(?![0-9A-Fa-f]{2})|\^[0-9A-Fa-f]{2}|.", re.DOTALL)
USUAL = re.compile(r"http://[^/?#]*:80|https://[^/?#]*:443|ftp://[^/?#]*:21")


def unescaped(text):
    """The text with its escapes of plain signs replaced."""
    return ESCAPE.sub(lambda found: plain_of(found.group(1)) or found.group(), text)


def plain_of(digits):
    """The plain sign that an escape with these digits denotes, or None."""
    sign = chr(int(digits, 16))
    return sign if PLAIN_SIGN.fullmatch(sign) else None


def mended(text, name):
    signs = second_reading.MAY_STAND[name]
    return MARKED.sub(lambda found: mended_sign(found.group(), signs), text)


def mended_sign(sign, signs):
    if len(sign) == 3 or signs.fullmatch(sign):
        return sign
    return "^" + hex(ord(sign))[2:].upper().zfill(2)


def all_steps(text):
    """A dict of all possible steps of a URL, in the order of [11]: the text behind each."""
    found = {}
    for step in (lower_steps, escape_steps, user_steps, port_steps, slash_steps, dot_steps):
        found.update(step(text))
    ordered = sorted(found, key=lambda each: (each[1], RULES.index(each[0])))
    return {step: found[step] for step in ordered}


def changed(text, start, end, new):
    return text[:start] + new + text[end:]


def lower_steps(text):
    shape = second_reading.SHAPE.fullmatch(text)
    places = list(range(*shape.span(1))) if shape.group(1) is not None else []
    if shape.group(2) is not None:
        host = second_reading.AUTHORITY.fullmatch(shape.group(2)).span(2)
        inside = {at for each in ESCAPE.finditer(text) for at in range(*each.span())}
        places += [shape.start(2) + at for at in range(*host) if shape.start(2) + at not in inside]
    for at in places:
        if re.match("[A-Z]", text[at]):
            yield ("lower", at), changed(text, at, at + 1, text[at].lower())


def escape_steps(text):
    for each in ESCAPE.finditer(text):
        for at in (each.start() + 1, each.start() + 2):
            if re.match("[a-f]", text[at]):
                yield ("upper", at), changed(text, at, at + 1, text[at].upper())
        if plain_of(each.group(1)) is not None:
            yield ("unescape", each.start()), changed(text, *each.span(), plain_of(each.group(1)))


def user_steps(text):
    found = re.match("([^:/?#]*:)?//@", text)
    if found:
        yield ("user", found.end() - 1), changed(text, found.end() - 1, found.end(), "")


def port_steps(text):
    shape = second_reading.SHAPE.fullmatch(text)
    if shape.group(2) is None:
        return
    rest = second_reading.AUTHORITY.fullmatch(shape.group(2)).group(3)
    end = shape.end(2)
    colon = end - len(rest)
    if re.match(":0.", rest):
        yield ("port", colon + 1), changed(text, colon + 1, colon + 2, "")
    if rest == ":" or rest and USUAL.fullmatch(text[:end]):
        yield ("port", colon), changed(text, colon, end, "")


def slash_steps(text):
    shape = second_reading.SHAPE.fullmatch(text)
    if shape.group(2) is not None and shape.group(3) == "":
        yield ("slash", shape.end(2)), changed(text, shape.end(2), shape.end(2), "/")


def dot_steps(text):
    shape = second_reading.SHAPE.fullmatch(text)
    path = shape.group(3)
    if not path.startswith("/"):
        return
    segments = path[1:].split("/")
    for place, segment in enumerate(segments):
        if segment not in (".", ".."):
            continue
        if place and unescaped(segments[place - 1]) in (".", ".."):
            continue
        kept = segments[:place] if segment == "." else segments[:max(0, place - 1)]
        behind = segments[place + 1:] or [""]
        new = "/" + "/".join(kept + behind)
        if new.startswith("//") and shape.group(2) is None:
            new = "/." + new
        if new != path:
            index = shape.start(3) + len("/".join([""] + segments[:place]))
            yield ("dot", index), changed(text, *shape.span(3), new)


def ends(text):
    """The texts at which steps end, however they are taken."""
    found, seen, waiting = set(), {text}, [text]
    while waiting:
        here = waiting.pop()
        behind = set(all_steps(here).values())
        if not behind:
            found.add(here)
        waiting.extend(behind - seen)
        seen |= behind
    return found


def normal(text):
    """The text at which steps end, if always the last one of the possible steps is taken."""
    behind = list(all_steps(text).values())
    while behind:
        text = behind[-1]
        behind = list(all_steps(text).values())
    return text
