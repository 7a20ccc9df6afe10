"""Point 53 and the interface: names and arguments, and where they are defined."""

import importlib
import inspect
import unittest

FUNCTIONS = {
    "nets": {"walked": "net lanes", "way_from": "net a b", "parts_of": "net"},
    "rounds": {"fits": "net ring"},
    "patterns": {
        "any_of": "*names", "none_of": "*names", "walk_of": "*names", "repeated": "p", "optional": "p",
        "within": "p q", "parting": "p q"},
    "asked": {"showing": "asked pattern", "avoiding": "asked pattern", "paper": "asked pattern",
              "never": "asked pattern"},
    "longest": {"longest": "asked", "grown": "asked stretch", "detour": "net stretch"},
    "lots": {"closed": "asked", "wishes": "asked", "loopholes": "asked pattern", "settling": "asked pattern"},
    "courses": {
        "lanes_of": "course", "without": "course lane pattern", "suite": "course wanted pattern",
        "gate": "course lane other", "goals": "course", "fewest": "course wanted", "apart": "course wanted",
        "together": "course wanted pattern=None"},
    "shortest": {"shortest": "asked pattern=None"},
    "windows": {
        "windows": "text k", "window_net": "words", "ring_text": "ring", "text_round": "text k",
        "contained": "words word", "known_by": "text"},
    "comparing": {"parting_round": "one two", "parting_stretch": "one two"},
    "watching": {"turned": "watch deeds"},
}

METHODS = {
    ("nets", "Net"): {
        "__init__": "", "post": "name", "lane": "name start end", "start_of": "lane", "end_of": "lane",
        "out_of": "post", "copy": "", "cut": "lane", "__getitem__": "at", "__contains__": "x", "__len__": "",
        "__sub__": "other", "__or__": "other", "__ior__": "other", "__neg__": "", "__le__": "other",
        "__eq__": "other"},
    ("rounds", "Round"): {
        "__init__": "lanes", "root": "", "least": "", "taken": "", "places": "lanes", "__getitem__": "at",
        "__len__": "", "__contains__": "x", "__eq__": "other", "__mul__": "other", "__lshift__": "other",
        "__neg__": ""},
    ("patterns", "Pattern"): {
        "__contains__": "x", "__bool__": "", "__add__": "other", "__or__": "other", "__mul__": "other",
        "__neg__": ""},
    ("asked", "Asked"): {
        "__init__": "net wanted", "part": "", "round": "", "__bool__": "", "__call__": "pattern"},
    ("courses", "Course"): {"__init__": "net start ends", "__contains__": "x", "__len__": ""},
    ("watching", "Watch"): {
        "__init__": "net wanted=()", "wish": "wanted", "state": "name", "states": "", "sure": "", "do": "deed",
        "told": "", "back": "number=1", "trial": "", "__getitem__": "at", "__setitem__": "at worth",
        "__contains__": "x", "__len__": "", "__iadd__": "other"},
    ("books", "Book"): {
        "__init__": "", "written": "", "report": "", "__getitem__": "at", "__setitem__": "at worth",
        "__contains__": "x", "__len__": ""},
}

PROPERTIES = {
    ("nets", "Net"): ["posts", "lanes"], ("rounds", "Round"): ["lanes"], ("patterns", "Pattern"): ["text", "names"],
    ("asked", "Asked"): ["net", "wanted"], ("courses", "Course"): ["net"],
    ("watching", "Watch"): ["net", "wanted", "names"], ("books", "Book"): ["net", "wanted", "names"]}

# Those properties that can be assigned.
ASSIGNED = [("watching", "Watch", "wanted")]


def module_of(name):
    return importlib.import_module(f"alsoshown.{name}")


class InterfaceTest(unittest.TestCase):
    def parameters(self, function):
        """The names of the parameters, after a check that all may be passed by position."""
        found = inspect.signature(function).parameters.values()
        for parameter in found:
            self.assertIn(parameter.kind, (parameter.POSITIONAL_OR_KEYWORD, parameter.VAR_POSITIONAL))
        return " ".join(str(parameter) for parameter in found)

    def test_functions(self):
        for name, functions in FUNCTIONS.items():
            for function, parameters in functions.items():
                made = vars(module_of(name))[function]
                self.assertTrue(inspect.isfunction(made))
                self.assertEqual((made.__module__, made.__name__), (f"alsoshown.{name}", function))
                self.assertEqual(self.parameters(made), parameters, function)

    def test_classes_and_their_own_methods(self):
        for (name, title), methods in METHODS.items():
            made = vars(module_of(name))[title]
            self.assertEqual((made.__module__, made.__name__), (f"alsoshown.{name}", title))
            for method, parameters in methods.items():
                own = vars(made)[method]
                self.assertTrue(inspect.isfunction(own), method)
                self.assertEqual(self.parameters(own), f"self {parameters}".strip(), method)

    def test_class_methods(self):
        for name, title in (("patterns", "Pattern"), ("books", "Book")):
            read = vars(vars(module_of(name))[title])["read"]
            self.assertIsInstance(read, classmethod)
            self.assertEqual(self.parameters(read.__func__), "cls text")

    def test_properties_and_which_can_be_assigned(self):
        for (name, title), properties in PROPERTIES.items():
            for attribute in properties:
                own = vars(vars(module_of(name))[title])[attribute]
                self.assertIsInstance(own, property)
                self.assertEqual(own.fset is not None, (name, title, attribute) in ASSIGNED)


if __name__ == "__main__":
    unittest.main()
