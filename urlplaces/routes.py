"""Tables of routes: names for prefixes of URLs [15]."""

from urlplaces.errors import NoBase, NoRoute, TooMany
from urlplaces.rules import normal


class Routes:
    """A table of routes. It is called with a URL and answers with the name of a prefix."""

    MOST = 50

    def __init__(self):
        # The name of each prefix, by the text of its normal form.
        self._names = {}

    def add(self, prefix, name):
        """Puts a prefix into the table, or another name of one that is there."""
        if not _is_prefix(prefix):
            raise NoBase()
        text = str(normal(prefix))
        if text not in self._names and len(self._names) >= Routes.MOST:
            raise TooMany(Routes.MOST)
        self._names[text] = name

    def remove(self, prefix):
        """Takes a prefix out of the table; its name."""
        text = str(normal(prefix))
        if not _is_prefix(prefix) or text not in self._names:
            raise NoRoute(prefix)
        return self._names.pop(text)

    def covers(self, url):
        """Whether a prefix of the table covers a URL."""
        return self._longest(url) is not None

    def __call__(self, url):
        """The name of the longest prefix that covers a URL."""
        text = self._longest(url)
        if text is None:
            raise NoRoute(url)
        return self._names[text]

    def __len__(self):
        return len(self._names)

    def _longest(self, url):
        """The text of the longest prefix that covers a URL, or None."""
        text = str(normal(url))
        return max([prefix for prefix in self._names if text.startswith(prefix)], key=len, default=None)


def _is_prefix(url):
    return url.is_base and url.path.endswith("/") and url.query is None and url.fragment is None
