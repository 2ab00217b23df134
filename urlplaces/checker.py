"""Papers that show whether two URLs are alike, and whether they hold [12]."""

from urlplaces.errors import BadStep
from urlplaces.rules import after, steps


def shown(one, other, value):
    """What any value shows about two URLs if it is a paper that holds: "alike", "unlike" or None."""
    if not _has_two_lists(value):
        return None
    try:
        first, second = walked(one, value[0]), walked(other, value[1])
    except BadStep:
        return None
    if first == second:
        return "alike"
    return "unlike" if steps(first) == [] and steps(second) == [] else None


def walked(url, values):
    """The URL behind a list of steps, any values, which are taken one after another."""
    for place, value in enumerate(values):
        url = _walked_once(url, value, place)
    return url


def _walked_once(url, value, place):
    try:
        return after(url, value)
    except BadStep:
        raise BadStep(place) from None


def _has_two_lists(value):
    return isinstance(value, tuple) and len(value) == 2 and all([isinstance(each, list) for each in value])
