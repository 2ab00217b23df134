"""Pages and branches, and what becomes of a URL in a branch that is moved [17]."""

from urlplaces.joining import cleaned, path_of, stack
from urlplaces.parts import Url


def is_page(url):
    """Whether a URL is a base without a fragment whose path is not empty and is cleaned."""
    if not url.is_base or url.fragment is not None or url.path == "":
        return False
    return cleaned(url.path, has_authority=url.has_authority) == url.path


def is_branch(url):
    """Whether a URL is a page without a query whose path ends with "/"."""
    return is_page(url) and url.query is None and url.path.endswith("/")


def origin(url):
    """The scheme and the authority of a URL."""
    return (url.scheme, url.user, url.host, url.port)


def folders(branch):
    """The stack of the path of a branch without its last segment, which is empty."""
    return stack(branch.path)[:-1]


def is_in(url, branch):
    """Whether a URL is in a branch."""
    return _rest(url, branch) is not None


def moved(url, branch, other):
    """The image of a URL if a branch is moved to another one."""
    rest = _rest(url, branch)
    if rest is None:
        return url
    return at_place(origin(other), folders(other) + rest, url)


def at_place(start, segments, url):
    """The URL with this scheme and authority and with this stack, and with the query and the fragment of a URL."""
    scheme, user, host, port = start
    return Url((scheme, user, host, port, path_of(segments, host is not None), url.query, url.fragment))


def _rest(url, branch):
    """The stack of a URL behind the folders of a branch, or None if it is not in the branch."""
    if origin(url) != origin(branch) or not url.path.startswith("/"):
        return None
    before = folders(branch)
    segments = stack(url.path)
    # The stack of a URL in a branch has at least one segment more, be it an empty one.
    if len(segments) <= len(before) or segments[:len(before)] != before:
        return None
    return segments[len(before):]
