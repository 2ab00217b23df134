"""What several files of tests use."""

import itertools

from urlplaces.parsing import parse
from urlplaces.parts import Url

NO_STRINGS = (None, True, False, 0, 17, -10 ** 59, (), ("a",), [], ["a:b"], {}, {"a": "b"}, b"a:b", parse("a:b"))

# Values that are nowhere right, where a function takes any value: no step, no paper, no row.
ANY_VALUES = (
    None, True, False, 0, 1, -1, 10 ** 60 - 1, 1 - 10 ** 60, "", " ", "a", "\n", "s:/a", "x" * 2000, (), (None,), ("",),
    (0, 0), ("a", 0), (0, "a"), ("lower",), ("lower", True), ("lower", None), ("x", "y", "z"), [], [0], [[]], [("a", 0)],
    ["lower", 0], {}, {"a": 0}, {0: []}, {(): ()}, parse(""), parse("s:/a"), (parse("s:/a"),), [parse("s:/a")],
    (parse("s:/a"), parse("s:/a")), ((((((((1,),),),),),),),), [[[[[[[[None]]]]]]]], {"a": {"b": [(), {}]}},
    ("trail",), ("closed",), ("final",), ("endless",), ("trail", ()), ("closed", ()), ("final", "0"), ("final", []),
    ("endless", 0), ("endless", 0, "1"), ("trail", 0), ("closed", "a"), list(range(2000)), tuple(range(2000)))


def all_texts(signs, most):
    """All texts of these signs, the shortest first, those of the same length in the order of strings."""
    for many in range(most + 1):
        for row in itertools.product(sorted(signs), repeat=many):
            yield "".join(row)


def parts_of(url):
    return {name: getattr(url, name) for name in Url.PARTS}
