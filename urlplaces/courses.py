"""URLs on their way through the redirects of a table [20, 21]."""

from urlplaces.branches import at_place, folders, origin
from urlplaces.joining import stack

# A URL on its way is held as its scheme and authority, and as its stack from the last segment to the first one,
# because redirects change the first ones, and a list is changed quickly only at its end.


class Tree:
    """The rules of a table. A walk along the folders of a URL finds the one that redirects it."""

    def __init__(self, rules):
        """Takes the list of all rules, tuples (branch, other) in normal form."""
        # The number of the node to which a name leads from a node: first, from the node 0, a scheme with an
        # authority, then one folder after another.
        self._nodes = {}
        # By the node of each first branch: how many folders disappear, and which scheme, authority and folders
        # come, the last folder first.
        self._changes = {}
        self.width = 0
        for branch, other in rules:
            before = folders(branch)
            node = self._node(origin(branch), before)
            self._changes[node] = (len(before), origin(other), folders(other)[::-1])
            self.width = max(self.width, len(before) + 1)

    def _node(self, start, names):
        node = 0
        for name in [start] + names:
            node = self._nodes.setdefault((node, name), len(self._nodes) + 1)
        return node

    def change_of(self, start, left):
        """What the rule does that redirects the URL with this scheme, authority and stack, or None."""
        found = None
        node = self._nodes.get((0, start))
        at = len(left)
        # A URL in a branch has at least one segment behind the folders of the branch.
        while node is not None and at > 0:
            found = self._changes.get(node, found)
            at -= 1
            node = self._nodes.get((node, left[at]))
        return found


class Course:
    """The chain of a URL in normal form, one redirect after another."""

    def __init__(self, tree, url):
        self._tree = tree
        self._url = url
        self._start = origin(url)
        self._left = stack(url.path)[::-1]

    def goes_on(self):
        """Takes the next redirect; False if no rule covers the URL."""
        change = self._tree.change_of(self._start, self._left)
        if change is None:
            return False
        many, self._start, new = change
        del self._left[len(self._left) - many:]
        self._left.extend(new)
        return True

    def reached(self):
        """The URL behind the redirects that have been taken."""
        return at_place(self._start, self._left[::-1], self._url)

    def depth(self):
        """The number of segments of the stack."""
        return len(self._left)

    def head(self):
        """What tells which rule redirects the URL: scheme, authority, and the first segments of the stack."""
        return (self._start, tuple(self._left[max(0, len(self._left) - self._tree.width):]))


def followed(course):
    """Takes redirects until the chain ends or is seen to be endless; the paper about it."""
    # By the heads of the URLs below whose depth the chain has not come since: the redirects before them.
    seen = {}
    # The depths and heads of these URLs; no depth is smaller than one before it.
    waiting = []
    many = 0
    head = course.head()
    while head not in seen:
        seen[head] = many
        waiting.append((course.depth(), head))
        if not course.goes_on():
            return ("final", many)
        many += 1
        while len(waiting) > 0 and waiting[-1][0] > course.depth():
            _, lost = waiting.pop()
            del seen[lost]
        head = course.head()
    return ("endless", seen[head], many - seen[head])


def comes_again(course, many, more, first, period):
    """Whether ("endless", many, more) is a paper about a chain about which ("endless", first, period) is one."""
    start = _folded(many, first, period)
    again = _folded(start + more, first, period)
    # From `first` on, no URL has a smaller depth than the one a period before it; so one period tells it for all.
    last = min(start + more, max(start, first) + period)
    depths = []
    heads = []
    for number in range(last + 1):
        depths.append(course.depth())
        if number in (start, again):
            heads.append(course.head())
        course.goes_on()
    return heads[0] == heads[-1] and min(depths[start:]) == depths[start]


def _folded(number, first, period):
    """The least number of redirects behind which a chain with this period has the same head for the same reason."""
    return number if number < first else first + (number - first) % period
