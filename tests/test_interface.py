"""Each name of the interface is defined in the file under which the document lists it, with its arguments."""

import importlib
import inspect
import unittest

FUNCTIONS = {
    "escapes": ["octets(text)", "escaped(numbers, *, keep='')", "mended(text, name)"],
    "parsing": ["parse(text)", "is_url(value)"],
    "joining": ["stack(path)", "cleaned(path, *, has_authority=True)", "join(base, reference)",
                "leads(base, reference, goal)"],
    "bases": ["relative(base, goal)", "parting(one, other)", "interchangeable(one, other)"],
    "rules": ["steps(url)", "after(url, step)", "normal(url)", "alike(one, other)", "paper(one, other)"],
    "checker": ["shown(one, other, value)", "walked(url, values)"],
    "queries": ["pairs(query)", "query_of(items)", "values_of(query, key, *, default=())"],
    "sites": ["shows(site, start, goal, value)"],
    "redirects": ["paper(redirects, url)", "shows(redirects, url, value)"],
}
# The methods of each class without their own object; a name alone is a property.
CLASSES = {
    "parts": {"Url": [
        "of(*, scheme=None, user=None, host=None, port=None, path='', query=None, fragment=None)", "replaced(**changes)",
        "scheme", "user", "host", "port", "path", "query", "fragment", "has_authority", "is_base", "is_opaque",
        "__str__()", "__repr__()", "__len__()", "__eq__(other)", "__add__(other)"]},
    "routes": {"Routes": ["__init__()", "add(prefix, name)", "remove(prefix)", "__call__(url)", "covers(url)", "__len__()"]},
    "tours": {"Tour": [
        "__init__(base)", "here", "go(reference)", "back(many=1)", "forward(many=1)", "trail()", "__len__()", "least(goal)",
        "tried(function)"]},
    "sites": {"Site": [
        "__init__()", "put(page, references)", "pages()", "references(page)", "targets(page)", "__len__()", "__eq__(other)",
        "image(url, branch, other)", "move(branch, other)", "undo()", "shortest(start, goal)", "paper(start, goal)"]},
    "redirects": {"Redirects": [
        "__init__()", "add(branch, other)", "remove(branch)", "rules()", "__len__()", "__eq__(other)", "following(url)",
        "__contains__(url)", "chain(url)", "final(url)", "origins(url)", "telling(other)"]},
    "desk": {"Desk": ["__init__(text)", "say(row)"]},
}
KINDS = {("Url", "of"): classmethod, ("Site", "image"): staticmethod}
GENERATORS = {("Tour", "trail"), ("Redirects", "chain")}
# The values of classes, and those that are no methods.
VALUES = {
    "parts": {"Url": {"PARTS": ("scheme", "user", "host", "port", "path", "query", "fragment")}},
    "routes": {"Routes": {"MOST": 50}},
    "sites": {"Site": {"MOST": 100}},
    "redirects": {"Redirects": {"MOST": 50}},
}
NAMES = {"escapes": ["PLAIN", "INNER"], "rules": ["RULES"]}


def told_of(found, name):
    """A method of the class itself with its parameters, or the name of a property."""
    value = vars(found)[name]
    if isinstance(value, property):
        return name
    if isinstance(value, staticmethod):
        return name + str(inspect.signature(value.__func__))
    function = value.__func__ if isinstance(value, classmethod) else value
    signature = inspect.signature(function)
    return name + str(signature.replace(parameters=list(signature.parameters.values())[1:]))


class Interface(unittest.TestCase):
    def test_functions(self):
        for file, rows in FUNCTIONS.items():
            module = importlib.import_module("urlplaces." + file)
            for row in rows:
                with self.subTest(row):
                    name = row.partition("(")[0]
                    function = getattr(module, name)
                    self.assertTrue(inspect.isfunction(function))
                    self.assertEqual(function.__module__, module.__name__)
                    self.assertEqual(name + str(inspect.signature(function)), row)

    def test_classes(self):
        for file, classes in CLASSES.items():
            module = importlib.import_module("urlplaces." + file)
            for name, rows in classes.items():
                found = getattr(module, name)
                self.assertTrue(inspect.isclass(found))
                self.assertEqual(found.__module__, module.__name__)
                for row in rows:
                    with self.subTest((name, row)):
                        self.assertEqual(told_of(found, row.partition("(")[0]), row)

    def test_kinds_of_methods(self):
        for file, classes in CLASSES.items():
            for name, rows in classes.items():
                for each, value in vars(getattr(importlib.import_module("urlplaces." + file), name)).items():
                    kind = type(value) if isinstance(value, (classmethod, staticmethod)) else None
                    self.assertIs(kind, KINDS.get((name, each)))
                    self.assertIs(inspect.isgeneratorfunction(value), (name, each) in GENERATORS)

    def test_values_of_classes(self):
        for file, classes in VALUES.items():
            for name, values in classes.items():
                found = getattr(importlib.import_module("urlplaces." + file), name)
                for each, value in values.items():
                    self.assertEqual(vars(found)[each], value)
                    self.assertIs(type(vars(found)[each]), type(value))

    def test_names(self):
        for file, names in NAMES.items():
            for name in names:
                source = inspect.getsource(importlib.import_module("urlplaces." + file))
                self.assertRegex(source, rf"(?m)^{name} = ")


if __name__ == "__main__":
    unittest.main()
