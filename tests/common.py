"""What several files of tests use."""

import itertools

from urlplaces.parsing import parse
from urlplaces.parts import Url

NO_STRINGS = (None, True, False, 0, 17, -10 ** 59, (), ("a",), [], ["a:b"], {}, {"a": "b"}, b"a:b", parse("a:b"))


def all_texts(signs, most):
    """All texts of these signs, the shortest first, those of the same length in the order of strings."""
    for many in range(most + 1):
        for row in itertools.product(sorted(signs), repeat=many):
            yield "".join(row)


def parts_of(url):
    return {name: getattr(url, name) for name in Url.PARTS}
