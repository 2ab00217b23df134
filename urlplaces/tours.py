"""Tours from URL to URL [16]."""

from urlplaces.bases import relative
from urlplaces.errors import NoBase, NoPlace
from urlplaces.joining import join


class Tour:
    """A tour stands at a base; visits lead to others, and it can go back and forward among them."""

    def __init__(self, base):
        if not base.is_base:
            raise NoBase()
        # The places from the first one up to the one where the tour stands.
        self._behind = [base]
        # The places to go forward to, the next one last.
        self._ahead = []

    @property
    def here(self):
        """The place."""
        return self._behind[-1]

    def go(self, reference):
        """Visits what a reference leads to from the place; the new place."""
        url = join(self.here, reference)
        if not url.is_base:
            raise NoBase()
        self._behind.append(url)
        self._ahead = []
        return url

    def back(self, many=1):
        """Goes back before so many visits; the place."""
        if many >= len(self._behind):
            raise NoPlace()
        for _ in range(many):
            self._ahead.append(self._behind.pop())
        return self.here

    def forward(self, many=1):
        """Goes forward again behind so many visits; the place."""
        if many > len(self._ahead):
            raise NoPlace()
        for _ in range(many):
            self._behind.append(self._ahead.pop())
        return self.here

    def trail(self):
        """Yields the places from the first one up to the place, as they are when it begins."""
        for url in list(self._behind):
            yield url

    def __len__(self):
        return len(self._behind)

    def least(self, goal):
        """The least reference that leads from the place to a goal, or None."""
        return relative(self.here, goal)

    def tried(self, function):
        """What a function returns for the tour, which is afterwards as it was before."""
        behind = list(self._behind)
        ahead = list(self._ahead)
        try:
            return function(self)
        finally:
            self._behind, self._ahead = behind, ahead
