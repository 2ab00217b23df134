"""URLs as parts [6]."""

from urlplaces.errors import BadPart
from urlplaces.joining import join
from urlplaces.signs import wrong_place


class Url:
    """A URL. Its parts are possible, so its text is parsed as the same parts."""

    PARTS = ("scheme", "user", "host", "port", "path", "query", "fragment")

    def __init__(self, parts):
        """Takes the tuple of all parts, which are possible: Url.of tests any values."""
        self._parts = parts

    @classmethod
    def of(cls, *, scheme=None, user=None, host=None, port=None, path="", query=None, fragment=None):
        """The URL with these parts."""
        parts = (scheme, user, host, port, path, query, fragment)
        for name, value in zip(cls.PARTS, parts):
            if not _is_part(name, value):
                raise BadPart(name)
        if host is None and user is not None:
            raise BadPart("user")
        if host is None and port is not None:
            raise BadPart("port")
        if not _is_possible(scheme, host, path):
            raise BadPart("path")
        return cls(parts)

    def replaced(self, **changes):
        """The URL with other parts, named as in Url.of."""
        kept = dict(zip(Url.PARTS, self._parts))
        parts = {**kept, **changes}
        return Url.of(**parts)

    @property
    def scheme(self):
        return self._parts[0]

    @property
    def user(self):
        return self._parts[1]

    @property
    def host(self):
        return self._parts[2]

    @property
    def port(self):
        return self._parts[3]

    @property
    def path(self):
        return self._parts[4]

    @property
    def query(self):
        return self._parts[5]

    @property
    def fragment(self):
        return self._parts[6]

    @property
    def has_authority(self):
        """Whether the authority is present, perhaps empty."""
        return self.host is not None

    @property
    def is_base(self):
        """Whether references can be joined to the URL."""
        return self.scheme is not None and not self.is_opaque

    @property
    def is_opaque(self):
        """Whether the URL has a scheme and neither an authority nor a path that begins with "/"."""
        return self.scheme is not None and not self.has_authority and not self.path.startswith("/")

    def __add__(self, other):
        if not isinstance(other, Url):
            return NotImplemented
        return join(self, other)

    def __eq__(self, other):
        return isinstance(other, Url) and self._parts == other._parts

    def __len__(self):
        return len(str(self))

    def __repr__(self):
        text = str(self)
        return f"Url({text!r})"

    def __str__(self):
        pieces = []
        if self.scheme is not None:
            pieces.append(f"{self.scheme}:")
        if self.host is not None:
            pieces.append("//")
        if self.user is not None:
            pieces.append(f"{self.user}@")
        if self.host is not None:
            pieces.append(self.host)
        if self.port is not None:
            pieces.append(f":{self.port}")
        pieces.append(self.path)
        if self.query is not None:
            pieces.append(f"?{self.query}")
        if self.fragment is not None:
            pieces.append(f"#{self.fragment}")
        return "".join(pieces)


def _is_part(name, value):
    """Whether any value is a text of the signs of this part, or stands for its absence."""
    if value is None:
        return name != "path"
    return isinstance(value, str) and wrong_place(name, value) is None


def _is_possible(scheme, host, path):
    """Whether a path can be told from the parts that stand before it."""
    if host is not None:
        return path == "" or path.startswith("/")
    if path.startswith("//"):
        return False
    return scheme is not None or ":" not in path.partition("/")[0]
