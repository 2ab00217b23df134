"""Shortest references: one that leads to a goal [10], and one that parts two bases [13]."""

from urlplaces.errors import NoBase
from urlplaces.escapes import plainer
from urlplaces.joining import cleaned, folder, join, stack
from urlplaces.parts import Url
from urlplaces.rules import alike


def rank(url):
    """What is least for the least one of several URLs."""
    text = str(url)
    return (len(text), text)


def relative(base, goal):
    """The least reference that leads from a base to a goal, or None."""
    if not base.is_base:
        raise NoBase()
    return min(_leading(base, goal), key=rank, default=None)


def parting(one, other):
    """The least reference that leads from two bases to URLs that are not alike, or None."""
    if not (one.is_base and other.is_base):
        raise NoBase()
    empty = Url.of()
    if not alike(join(one, empty), join(other, empty)):
        return empty
    # From here on only a reference with a path that does not begin with "/" can part them.
    ups = _ups_that_part(_folders(one), _folders(other))
    if ups is None:
        return None
    # If the folders differ as they are, any segment tells it; "!" is the first sign a path can have.
    return Url.of(path="!" if ups == 0 else "/".join([".."] * ups))


def interchangeable(one, other):
    """Whether every reference leads from two bases to URLs that are alike."""
    return parting(one, other) is None


def _leading(base, goal):
    """References that lead from a base to a goal, the least one among them, if there is any."""
    found = []
    # A path that is not cleaned is that of a goal only if it is the path of the base.
    is_clean = cleaned(goal.path, has_authority=goal.has_authority) == goal.path
    if is_clean and goal.scheme is not None:
        found.append(goal)
    if goal.scheme != base.scheme:
        return found
    if is_clean and goal.has_authority:
        found.append(goal.replaced(scheme=None))
    if (goal.user, goal.host, goal.port) != (base.user, base.host, base.port):
        return found
    rest = Url.of(query=goal.query, fragment=goal.fragment)
    if goal.path == base.path and goal.query == base.query:
        found.append(rest.replaced(query=None))
    if goal.path == base.path and goal.query is not None:
        found.append(rest)
    if is_clean and goal.path.startswith("/"):
        # A reference has no authority here, so its path must not begin with "//".
        found.append(rest.replaced(path=cleaned(goal.path, has_authority=False)))
        found.append(rest.replaced(path=_path_between(_folders(base), stack(goal.path))))
    return found


def _path_between(folders, goal):
    """The least path without a "/" at its beginning that leads from these folders to this stack."""
    shared = 0
    # The last one of the goal is always written, so it is not shared.
    while shared < min(len(folders), len(goal) - 1) and folders[shared] == goal[shared]:
        shared += 1
    ups = len(folders) - shared
    rest = goal[shared:]
    if rest == [""]:
        return "/".join([".."] * ups) if ups > 0 else "."
    path = "../" * ups + "/".join(rest)
    # Such a path would be read in another way: as one that begins with "/", or behind a scheme.
    if path.startswith("/") or ":" in path.partition("/")[0]:
        return "./" + path
    return path


def _folders(base):
    """The stack on which a path that does not begin with "/" goes on."""
    return stack(folder(base.path))[:-1]


def _ups_that_part(ones, others):
    """How many folders must be left, at least, so that what remains of the two is not alike, or None."""
    stacks = Stacks()
    one_stacks = stacks.numbers_along(ones)
    other_stacks = stacks.numbers_along(others)
    for ups in range(max(len(ones), len(others))):
        if one_stacks[max(0, len(ones) - ups)] != other_stacks[max(0, len(others) - ups)]:
            return ups
    return None


class Stacks:
    """Numbers for stacks of folders: equal numbers for equal stacks, so that they are compared at once."""

    def __init__(self):
        # The number of each stack without its last folder; 0 is the empty stack.
        self.shorter = [0]
        # The number of each stack, by that of the shorter one and the last folder.
        self.longer = {}

    def numbers_along(self, folders):
        """The number of the normal form of each beginning of a list of folders, the shortest first."""
        here = 0
        found = [here]
        for name in folders:
            plain = plainer(name)
            if plain == "..":
                here = self.shorter[here]
            elif plain != ".":
                here = self.number_with(here, plain)
            found.append(here)
        return found

    def number_with(self, number, name):
        """The number of the stack that has one folder more."""
        if (number, name) not in self.longer:
            self.longer[(number, name)] = len(self.shorter)
            self.shorter.append(number)
        return self.longer[(number, name)]
