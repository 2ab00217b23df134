"""Sites: pages with references, branches that are moved, and trails [17 to 19]."""

from urlplaces.bases import relative
from urlplaces.branches import is_branch, is_in, is_page, moved
from urlplaces.errors import NoBase, NoPlace, NoRoute, Taken, TooMany
from urlplaces.joining import join, leads
from urlplaces.trails import is_closed, is_trail, shortest_trails


class Site:
    """A site has pages, each with a list of references."""

    MOST = 100

    def __init__(self):
        # By the text of each page: the page and the list of its references, which is never modified.
        self._rows = {}
        # What the rows were before each put and each move.
        self._earlier = []
        # The links between the pages, or None as long as they have not been worked out.
        self._links = None

    def put(self, page, references):
        """Puts a page with a list of references into the site, or other references of a page that is there."""
        if not is_page(page):
            raise NoBase()
        rows = dict(self._rows)
        rows[str(page)] = (page, list(references))
        if len(rows) > Site.MOST:
            raise TooMany(Site.MOST)
        self._earlier.append(self._rows)
        self._change(rows)

    def pages(self):
        """The pages, ascending by their texts."""
        return self._pages_of(self._rows)

    def references(self, page):
        """The references of a page."""
        return list(self._references_of(page))

    def targets(self, page):
        """The targets of the references of a page."""
        return [join(page, reference) for reference in self._references_of(page)]

    def __len__(self):
        return len(self._rows)

    def __eq__(self, other):
        return isinstance(other, Site) and self._rows == other._rows

    @staticmethod
    def image(url, branch, other):
        """What becomes of a URL if a branch is moved to another one."""
        if not (is_branch(branch) and is_branch(other)):
            raise NoBase()
        return moved(url, branch, other)

    def move(self, branch, other):
        """Moves a branch to another one; the references that have changed, as tuples (page, index)."""
        if not (is_branch(branch) and is_branch(other)):
            raise NoBase()
        self._test_room(branch, other)
        rows = {}
        changes = []
        for page, references in self._rows.values():
            new, kept = _moved_row(page, references, branch, other)
            rows[str(new)] = (new, kept)
            changes.extend([(new, index) for index, reference in enumerate(references) if kept[index] != reference])
        self._earlier.append(self._rows)
        self._change(rows)
        return sorted(changes, key=_rank_of_change)

    def undo(self):
        """Undoes the last put or move that has not been undone."""
        if len(self._earlier) == 0:
            raise NoPlace()
        self._change(self._earlier.pop())

    def shortest(self, start, goal):
        """The first one of the shortest trails from a page to a page, or None."""
        return self._trails(start, goal).get(str(goal))

    def paper(self, start, goal):
        """A paper that shows whether there is a trail from a page to a page."""
        reached = self._trails(start, goal)
        if str(goal) in reached:
            return ("trail", reached[str(goal)])
        return ("closed", self._pages_of(reached))

    def links(self):
        """By the text of each page: the texts of the pages to which its links lead, by the indices of these."""
        if self._links is None:
            self._links = {text: self._links_of(page) for text, (page, _) in self._rows.items()}
        return self._links

    def _links_of(self, page):
        # The fragment of a URL stands behind the first "#" of its text.
        goals = [str(target).partition("#")[0] for target in self.targets(page)]
        return {index: goal for index, goal in enumerate(goals) if goal in self._rows}

    def _trails(self, start, goal):
        """By the text of each page that is reached from the start: the shortest trail to it."""
        # Both must be pages of the site; of two that are none, the first one is told.
        self._references_of(start)
        self._references_of(goal)
        return shortest_trails(self.links(), str(start))

    def _references_of(self, page):
        if str(page) not in self._rows:
            raise NoRoute(page)
        return self._rows[str(page)][1]

    def _pages_of(self, texts):
        """The pages with these texts, ascending by text."""
        return [self._rows[text][0] for text in sorted(texts)]

    def _test_room(self, branch, other):
        """Raises Taken if a page is in the way of another one that is moved."""
        images = {str(moved(page, branch, other)): True for page in self.pages() if is_in(page, branch)}
        for page in self.pages():
            if str(page) in images and not is_in(page, branch):
                raise Taken(page)

    def _change(self, rows):
        self._rows = rows
        self._links = None


def shows(site, start, goal, value):
    """Whether any value is a paper about trails from a page to a page; False if one of them is no page of the site."""
    links = site.links()
    if str(start) not in links or str(goal) not in links:
        return False
    if not isinstance(value, tuple) or len(value) != 2 or not isinstance(value[1], list):
        return False
    word, values = value
    if word == "trail":
        return is_trail(links, str(start), str(goal), values)
    return word == "closed" and is_closed(links, str(start), str(goal), values)


def _moved_row(page, references, branch, other):
    """A page and its references behind a move; those that still lead to the image of their target stay."""
    new = moved(page, branch, other)
    kept = []
    for reference in references:
        goal = moved(join(page, reference), branch, other)
        kept.append(reference if leads(new, reference, goal) else relative(new, goal))
    return (new, kept)


def _rank_of_change(change):
    page, index = change
    return (str(page), index)
