"""Redirects: tables of rules, chains, and the papers about them [20, 21]."""

from urlplaces.bases import rank
from urlplaces.branches import is_branch, is_in, moved, origin
from urlplaces.courses import Course, Tree, comes_again, followed
from urlplaces.errors import NoBase, NoRoute, TooMany
from urlplaces.joining import stack
from urlplaces.kinds import is_integer
from urlplaces.rules import normal


class Redirects:
    """A table of rules, each from a branch to another one."""

    MOST = 50

    def __init__(self):
        # By the text of the first branch of each rule: the rule, a tuple of both branches in normal form.
        self._rows = {}
        self._tree = Tree([])

    def add(self, branch, other):
        """Puts a rule into the table, perhaps in place of one with the same first branch."""
        if not (is_branch(branch) and is_branch(other)):
            raise NoBase()
        first = normal(branch)
        rows = dict(self._rows)
        rows[str(first)] = (first, normal(other))
        if len(rows) > Redirects.MOST:
            raise TooMany(Redirects.MOST)
        self._change(rows)

    def remove(self, branch):
        """Takes the rule from a branch out of the table; its second branch."""
        if not is_branch(branch):
            raise NoBase()
        rows = dict(self._rows)
        _, other = rows.pop(str(normal(branch)), (None, None))
        if other is None:
            raise NoRoute(branch)
        self._change(rows)
        return other

    def rules(self):
        """The rules, ascending by the text of the first branch."""
        return [self._rows[text] for text in sorted(self._rows)]

    def __len__(self):
        return len(self._rows)

    def __eq__(self, other):
        return isinstance(other, Redirects) and self._rows == other._rows

    def __contains__(self, url):
        if not url.is_base:
            return False
        first = normal(url)
        return self._tree.change_of(origin(first), stack(first.path)[::-1]) is not None

    def following(self, url):
        """What a base leads to by one redirect, or None if no rule covers it."""
        course = self.course(url)
        return course.reached() if course.goes_on() else None

    def chain(self, url):
        """Yields the URLs of the chain of a base."""
        course = self.course(url)
        yield course.reached()
        while course.goes_on():
            yield course.reached()

    def final(self, url):
        """The last URL of the chain of a base, or None if it is endless."""
        course = self.course(url)
        word = followed(course)[0]
        return course.reached() if word == "final" else None

    def origins(self, url):
        """The URLs in normal form from which one redirect leads to a base, ascending by text."""
        if not url.is_base:
            raise NoBase()
        goal = normal(url)
        # Going back by a rule gives what the rule would redirect to the goal, unless another rule redirects it.
        rows = [moved(goal, other, branch) for branch, other in self._rows.values() if is_in(goal, other)]
        found = {str(row): row for row in rows if self.following(row) == goal}
        return [found[text] for text in sorted(found)]

    def telling(self, other):
        """The least base in normal form that tells two tables apart, or None."""
        # What two tables do to a base depends only on the last first branch, of both tables, that the base is in,
        # and of the bases of which this is the last one, the branch itself is the least.
        branches = [branch for branch, _ in self.rules() + other.rules()]
        found = [branch for branch in branches if self.following(branch) != other.following(branch)]
        return min(found, key=rank, default=None)

    def course(self, url):
        """The chain of a base, at its beginning."""
        if not url.is_base:
            raise NoBase()
        return Course(self._tree, normal(url))

    def _change(self, rows):
        self._rows = rows
        self._tree = Tree(list(rows.values()))


def paper(redirects, url):
    """A paper about the chain of a base."""
    return followed(redirects.course(url))


def shows(redirects, url, value):
    """Whether any value is a paper about the chain of a base; False if the URL is not a base."""
    if not url.is_base or not _is_like_a_paper(value):
        return False
    known = paper(redirects, url)
    if known[0] == "final" or value[0] == "final":
        return value == known
    _, many, more = value
    _, first, period = known
    return comes_again(redirects.course(url), many, more, first, period)


def _is_like_a_paper(value):
    """Whether any value has the form of a paper about a chain."""
    if not isinstance(value, tuple) or len(value) not in (2, 3):
        return False
    if not all([is_integer(number) and number >= 0 for number in value[1:]]):
        return False
    if len(value) == 2:
        return value[0] == "final"
    return value[0] == "endless" and value[2] > 0
