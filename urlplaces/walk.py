"""How a reference is joined to a base [8, 9]."""

# Nothing is imported from urlplaces.parts: its class imports from here what it needs for "+".

from urlplaces.errors import NoBase


def joined(base, reference):
    """The URL to which a reference leads from a base."""
    if not base.is_base:
        raise NoBase()
    if reference.scheme is not None:
        path = cleaned_path(reference.path, reference.has_authority)
        return reference.replaced(path=path)
    if reference.has_authority:
        path = cleaned_path(reference.path, True)
        return reference.replaced(scheme=base.scheme, path=path)
    if reference.path == "":
        query = base.query if reference.query is None else reference.query
        return base.replaced(query=query, fragment=reference.fragment)
    path = cleaned_path(_path_from(base.path, reference.path), base.has_authority)
    return base.replaced(path=path, query=reference.query, fragment=reference.fragment)


def cleaned_path(path, has_authority):
    """The path without dot segments; it is still possible beside the authority."""
    if not path.startswith("/"):
        return path
    cleaned = "/" + "/".join(stack_of(path))
    if cleaned.startswith("//") and not has_authority:
        return "/." + cleaned
    return cleaned


def stack_of(path):
    """The segments that are left of a path that begins with "/"."""
    segments = path.split("/")[1:]
    stack = []
    for segment in segments:
        if segment not in (".", ".."):
            stack.append(segment)
        elif segment == ".." and len(stack) > 0:
            stack.pop()
    if segments[-1] in (".", ".."):
        stack.append("")
    return stack


def _path_from(base_path, path):
    """The path of a reference, as it is seen from the path of a base; not yet cleaned."""
    if path.startswith("/"):
        return path
    if base_path == "":
        return "/" + path
    return base_path[:base_path.rfind("/") + 1] + path
