"""How a reference is joined to a base [8, 9]."""

# Nothing is imported from urlplaces.parts: its class imports from here what it needs for "+".

from urlplaces.errors import NoBase


def stack(path):
    """The segments that are left of a path that begins with "/"."""
    segments = path.split("/")[1:]
    kept = []
    for segment in segments:
        if segment not in (".", ".."):
            kept.append(segment)
        elif segment == ".." and len(kept) > 0:
            kept.pop()
    if segments[-1] in (".", ".."):
        kept.append("")
    return kept


def cleaned(path, *, has_authority=True):
    """The path without dot segments; it is still possible beside the authority."""
    return path_of(stack(path), has_authority) if path.startswith("/") else path


def path_of(segments, has_authority):
    """The cleaned path with this stack; it is possible beside the authority."""
    path = "/" + "/".join(segments)
    return "/." + path if path.startswith("//") and not has_authority else path


def join(base, reference):
    """The URL to which a reference leads from a base."""
    if not base.is_base:
        raise NoBase()
    if reference.scheme is not None:
        path = cleaned(reference.path, has_authority=reference.has_authority)
        return reference.replaced(path=path)
    if reference.has_authority:
        return reference.replaced(scheme=base.scheme, path=cleaned(reference.path))
    if reference.path == "":
        query = base.query if reference.query is None else reference.query
        return base.replaced(query=query, fragment=reference.fragment)
    path = reference.path if reference.path.startswith("/") else folder(base.path) + reference.path
    path = cleaned(path, has_authority=base.has_authority)
    return base.replaced(path=path, query=reference.query, fragment=reference.fragment)


def leads(base, reference, goal):
    """Whether a reference leads from a base to a goal [10]."""
    return join(base, reference) == goal


def folder(path):
    """What stands in the path of a base up to its last "/"; references begin there."""
    return path[:path.rfind("/") + 1] or "/"
