"""The errors of the package, one class for each kind of failure."""

# Fields that are given by place are kept by Python itself as the error's message.
# An error without fields has an __init__ too, because it would take any arguments otherwise.


class BadUrl(ValueError):
    """A text is not a URL: the kind and the index of its first wrong place."""

    def __init__(self, kind, place):
        self.kind = kind
        self.place = place


class BadPart(ValueError):
    """A value cannot be the part of a URL with this name."""

    def __init__(self, name):
        self.name = name


class BadQuery(ValueError):
    """A query has an escape, at this index, whose sign may not stand there."""

    def __init__(self, place):
        self.place = place


class BadEscape(ValueError):
    """A text has a "^", at this index, that begins no escape."""

    def __init__(self, place):
        self.place = place


class NoBase(ValueError):
    """A URL is not a base, or not one of the kind that is needed."""

    def __init__(self):
        pass


class BadStep(ValueError):
    """A step is not possible: its index in the list of steps, or None."""

    def __init__(self, place):
        self.place = place


class NoRoute(LookupError):
    """There is nothing for this URL."""

    def __init__(self, url):
        self.url = url


class NoPlace(LookupError):
    """There is no place so far back or forward."""

    def __init__(self):
        pass


class Taken(LookupError):
    """This URL is a page already."""

    def __init__(self, url):
        self.url = url


class NoText(TypeError):
    """This value is not a string."""

    def __init__(self, value):
        self.value = value


class NoOctet(TypeError):
    """The item at this index is not an octet."""

    def __init__(self, place):
        self.place = place


class TooMany(OverflowError):
    """There is no room for more than so many."""

    def __init__(self, most):
        self.most = most


class NoRow(RuntimeError):
    """This value is not a row that a desk knows."""

    def __init__(self, row):
        self.row = row
