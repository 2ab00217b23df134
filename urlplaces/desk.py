"""A desk, which takes rows of words and answers with a string."""

from urlplaces.bases import parting
from urlplaces.errors import BadUrl, NoRow
from urlplaces.parsing import parse
from urlplaces.queries import pairs
from urlplaces.rules import alike, normal, steps
from urlplaces.tours import Tour


class Desk:
    """A desk has a tour; most rows only ask about URLs."""

    def __init__(self, text):
        self._tour = Tour(parse(text))

    def say(self, row):
        """What the desk answers to a row, which is any value."""
        if not isinstance(row, str):
            raise NoRow(row)
        word, *texts = row.split(" ")
        # Only the reference of a visit may be empty.
        if word not in ANSWERS or len(texts) != URLS[word] or "" in texts and word != "go":
            raise NoRow(row)
        try:
            urls = [parse(text) for text in texts]
        except BadUrl:
            raise NoRow(row) from None
        answer = ANSWERS[word]
        return answer(self._tour, *urls)


def _go(tour, reference):
    return str(tour.go(reference))


def _back(tour):
    return str(tour.back())


def _forward(tour):
    return str(tour.forward())


def _place(tour):
    return str(tour.here)


def _least(tour, goal):
    return _quoted(tour.least(goal))


def _normal(_, url):
    return str(normal(url))


def _alike(_, one, other):
    return "yes" if alike(one, other) else "no"


def _parting(_, one, other):
    return _quoted(parting(one, other))


def _steps(_, url):
    return " ".join([f"{rule}:{index}" for rule, index in steps(url)]) or "none"


def _pairs(_, url):
    return str(0 if url.query is None else len(pairs(url.query)))


def _quoted(reference):
    return "none" if reference is None else f'"{reference}"'


# What answers each row, by its first word.
ANSWERS = {
    "go": _go,
    "back": _back,
    "forward": _forward,
    "place": _place,
    "least": _least,
    "normal": _normal,
    "alike": _alike,
    "parting": _parting,
    "steps": _steps,
    "pairs": _pairs,
}

# How many URLs, a reference among them, stand behind this word.
URLS = {
    "go": 1,
    "back": 0,
    "forward": 0,
    "place": 0,
    "least": 1,
    "normal": 1,
    "alike": 2,
    "parting": 2,
    "steps": 1,
    "pairs": 1,
}
