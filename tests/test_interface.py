"""Each name of the interface is defined in the file under which the document lists it, with its arguments."""

import importlib
import inspect
import unittest

FUNCTIONS = {
    "escapes": ["octets(text)", "escaped(numbers, *, keep='')", "mended(text, name)"],
    "parsing": ["parse(text)", "is_url(value)"],
    "joining": ["stack(path)", "cleaned(path, *, has_authority=True)", "join(base, reference)",
                "leads(base, reference, goal)"],
    "bases": ["relative(base, goal)", "parting(one, other)", "interchangeable(one, other)"],
    "rules": ["steps(url)", "after(url, step)", "normal(url)", "alike(one, other)", "paper(one, other)"],
}
NAMES = {"escapes": ["PLAIN", "INNER"], "rules": ["RULES"]}


class Interface(unittest.TestCase):
    def test_functions(self):
        for file, rows in FUNCTIONS.items():
            module = importlib.import_module("urlplaces." + file)
            for row in rows:
                with self.subTest(row):
                    name = row.partition("(")[0]
                    function = getattr(module, name)
                    self.assertTrue(inspect.isfunction(function))
                    self.assertEqual(function.__module__, module.__name__)
                    self.assertEqual(name + str(inspect.signature(function)), row)

    def test_names(self):
        for file, names in NAMES.items():
            for name in names:
                source = inspect.getsource(importlib.import_module("urlplaces." + file))
                self.assertRegex(source, rf"(?m)^{name} = ")


if __name__ == "__main__":
    unittest.main()
