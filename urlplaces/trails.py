"""Trails along the links between pages, and the papers about them [19]."""

# The links of a site are a dict: by the text of each page, the texts of the pages to which its links lead,
# by the indices of these links, ascending.

from urlplaces.kinds import is_integer
from urlplaces.parts import Url


def shortest_trails(links, start):
    """By the text of each page that is reached from a page: the first one of the shortest trails to it."""
    found = {start: []}
    latest = [start]
    while len(latest) > 0:
        further = []
        # The trails to the latest pages are in the order of lists, so the first one that is found is the first one.
        for text in latest:
            for index, goal in links[text].items():
                if goal not in found:
                    found[goal] = found[text] + [index]
                    further.append(goal)
        latest = further
    return found


def is_trail(links, start, goal, values):
    """Whether a list of any values is a trail from a page to a page."""
    here = start
    for value in values:
        if not is_integer(value) or value not in links[here]:
            return False
        here = links[here][value]
    return here == goal


def is_closed(links, start, goal, values):
    """Whether a list of any values is a list of pages, with the start and without the goal, that no link leaves."""
    if not all([isinstance(value, Url) for value in values]):
        return False
    texts = [str(value) for value in values]
    if texts != sorted(set(texts)) or start not in texts or goal in texts:
        return False
    inside = {text: True for text in texts if text in links}
    if len(inside) < len(texts):
        return False
    return all([behind in inside for text in texts for behind in links[text].values()])
