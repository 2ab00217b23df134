"""A second reading of points [17], [19], [20] and [21], written on texts and with other means than the program."""

import functools
import itertools

import second_reading
import second_steps

PLACE = ("scheme", "user", "host", "port")


@functools.cache
def parts(text):
    return second_reading.read(text)


@functools.cache
def normal(text):
    return second_steps.normal(text)


@functools.cache
def place(text):
    return tuple(parts(text)[name] for name in PLACE)


@functools.cache
def clean(text):
    """The path of a text without dot segments; nothing stands in front of a "//"."""
    return second_reading.without_dots(parts(text)["path"])


def is_base(text):
    found = parts(text)
    return found["scheme"] is not None and (found["host"] is not None or found["path"].startswith("/"))


def with_path(found, path):
    """The text of parts with another path."""
    front = "/." if path.startswith("//") and found["host"] is None else ""
    return second_reading.written({**found, "path": front + path})


def is_page(text):
    found = parts(text)
    if not is_base(text) or found["fragment"] is not None or found["path"] == "":
        return False
    return with_path(found, clean(text)) == text


def is_branch(text):
    return is_page(text) and "?" not in text and text.endswith("/")


def is_in(text, branch):
    return place(text) == place(branch) and parts(text)["path"].startswith("/") and clean(text).startswith(clean(branch))


def image(text, branch, other):
    if not is_in(text, branch):
        return text
    found = {**parts(other), "query": parts(text)["query"], "fragment": parts(text)["fragment"]}
    return with_path(found, clean(other) + clean(text)[len(clean(branch)):])


def target(page, reference):
    return second_reading.written(second_reading.joined(parts(page), parts(reference)))


def links(rows, page):
    """The links of a page of a site, given as a dict of lists of references by pages: by index, the other page."""
    goals = [target(page, reference).split("#")[0] for reference in rows[page]]
    return {index: goal for index, goal in enumerate(goals) if goal in rows}


def trails(rows, start, goal, most):
    """All trails from a page to a page with at most so many links, the shortest first, then in the order of lists."""
    latest = [([], start)]
    for _ in range(most + 1):
        yield from [trail for trail, here in latest if here == goal]
        latest = [(trail + [index], behind) for trail, here in latest for index, behind in links(rows, here).items()]


def following(rules, text):
    """What a text leads to by one of the rules, a dict of branches by branches in normal form, or None."""
    text = normal(text)
    found = [branch for branch in rules if is_in(text, branch)]
    if not found:
        return None
    branch = max(found, key=lambda each: clean(each).count("/"))
    return image(text, branch, rules[branch])


def chain(rules, text, most):
    """The beginning of the chain of a text, with at most so many redirects."""
    found = [normal(text)]
    while len(found) <= most:
        behind = following(rules, found[-1])
        if behind is None:
            break
        found.append(behind)
    return found


def depth(text):
    return clean(text).count("/")


def head(rules, text):
    width = max([depth(branch) for branch in rules], default=0)
    return place(text), clean(text).split("/")[1:][:width]


def comes_again(rules, texts, many, more):
    """Whether the chain with these texts has the paper ("endless", many, more)."""
    if head(rules, texts[many]) != head(rules, texts[many + more]):
        return False
    return all(depth(text) >= depth(texts[many]) for text in texts[many:many + more + 1])


def endless_papers(rules, texts):
    """All papers (many, more) about the beginning of a chain."""
    pairs = itertools.combinations(range(len(texts)), 2)
    return [(one, other - one) for one, other in pairs if comes_again(rules, texts, one, other - one)]
