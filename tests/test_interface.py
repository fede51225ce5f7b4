"""What the interface lists exists under its name, in its file, with its arguments."""

import importlib
import inspect
import unittest

# For each file its functions, each with its arguments; times=2 is an argument with a value when left out.
FUNCTIONS = {
    "webs": {
        "is_whole": ["thing"], "look_at_web": ["thing"], "is_tied": ["web", "one", "other"],
        "neighbours": ["web", "place"],
    },
    "ways": {
        "distances": ["web", "place"], "table": ["web"], "shortest": ["web", "one", "other"], "hangs_together": ["web"],
        "pieces": ["web"], "within": ["web", "places"],
    },
    "rows": {
        "look_at_webs": ["thing"], "is_row": ["webs", "thing"], "places_of": ["webs"], "ties_of": ["webs"],
        "number_of": ["webs", "row"], "row_of": ["webs", "number"], "rows_tied": ["webs", "one", "other"],
        "rows_beside": ["webs", "row"],
    },
    "products": {"product": ["webs"], "power": ["web", "times=2"]},
    "factorings": {"lets_factoring": ["web", "thing"], "own_factoring": ["webs"]},
    "layers": {
        "direction": ["factoring", "one", "other"], "place_with": ["factoring", "row"],
        "layer": ["factoring", "place", "number"], "gate": ["factoring", "place", "other", "number"],
        "gathered": ["factoring", "groups"],
    },
    "links": {
        "is_far": ["web", "tie", "other"], "is_corner": ["web", "tie", "other"], "lets_link": ["web", "thing"],
    },
    "chains": {"lets_links": ["web", "thing"], "hung": ["web", "links"], "shows_prime": ["web", "thing"]},
    "classes": {"links_of": ["web"], "classes": ["web"]},
    "factors": {"factored": ["web"], "is_prime": ["web"], "prime_or_parted": ["web"]},
    "partings": {"grouped": ["web", "factoring"]},
    "namings": {
        "lets_naming": ["one", "other", "thing"], "renumbered": ["web", "numbers"], "turned_back": ["naming"],
        "behind": ["first", "second"],
    },
    "parts": {"parted_naming": ["one", "other", "naming"], "joined_naming": ["one", "other", "parts"]},
    "taken": {"cancelled": ["one", "other", "third", "naming"]},
    "raised": {"lowered": ["one", "other", "naming", "times=2"]},
    "alike": {"alike": ["one", "other"]},
    "likeness": {"like_factors": ["web"]},
    "roots": {"root_of": ["web", "times=2"]},
    "keeping": {
        "primes_of": ["webs"], "like_groups": ["webs"], "kept_many": ["webs"], "alike_products": ["ones", "others"],
        "orbits": ["web"],
    },
    "small": {"small_webs": ["places"]},
    "counts": {
        "far": ["webs", "one", "other"], "ways_many": ["webs", "one", "other"],
        "walks_many": ["webs", "one", "other", "steps=1"], "by_distance": ["webs", "row"], "widest": ["webs"],
        "threes": ["webs"], "fours": ["webs"],
    },
    "hulls": {"hull": ["web", "places"], "hull_sides": ["webs", "rows"]},
    "colours": {
        "lets_colours": ["web", "thing"], "mixed": ["webs", "colourings"], "fewest_colours": ["web"],
    },
    "layouts": {"lets_layout": ["web", "thing"]},
    "finest": {"finest": ["web"], "laid_by": ["web", "layout"]},
    "books": {"look_at_book": ["thing"], "sum_of": ["book", "web"], "web_by": ["book", "total"]},
    "texts": {"show_web": ["web"], "show_webs": ["webs"], "read_web": ["text"], "read_webs": ["text"]},
}

# For each class its file, what it is made of, and its methods with their arguments.
CLASSES = {
    "Sum": ("sums", ["terms", "kinds=1"], {
        "terms": [], "kinds": [], "added": ["other"], "multiplied": ["other"], "divided": ["other"],
        "__eq__": ["other"], "__len__": [], "__repr__": [], "__str__": [],
    }),
    "Keeper": ("keeper", ["webs"], {
        "put": ["number", "web"], "take": ["number"], "flip": ["number", "one", "other"], "go": ["row"], "undo": [],
        "webs": [], "stand": [], "places": [], "ties": [], "far_from": ["row"], "beside": [], "by_distance": [],
        "primes": [], "__eq__": ["other"], "__len__": [], "__repr__": [], "__str__": [],
    }),
    "Desk": ("desk", [], {"say": ["row"]}),
}


class TheInterface(unittest.TestCase):
    def test_functions(self):
        for file, functions in FUNCTIONS.items():
            module = importlib.import_module("webtimes." + file)
            for name, awaited in functions.items():
                function = getattr(module, name)
                self.assertTrue(inspect.isfunction(function), name)
                self.assertEqual(function.__module__, "webtimes." + file, name)
                parameters = inspect.signature(function).parameters.values()
                self.assertEqual([str(parameter) for parameter in parameters], awaited, name)
                for parameter in parameters:
                    self.assertEqual(parameter.kind, parameter.POSITIONAL_OR_KEYWORD, name)

    def test_classes(self):
        for name, (file, made_of, methods) in CLASSES.items():
            made = getattr(importlib.import_module("webtimes." + file), name)
            self.assertTrue(inspect.isclass(made), name)
            self.assertEqual((made.__module__, made.__bases__), ("webtimes." + file, (object,)))
            for method, awaited in [("__init__", made_of), *methods.items()]:
                # Defined in the class itself.
                function = vars(made)[method]
                self.assertTrue(inspect.isfunction(function), (name, method))
                parameters = list(inspect.signature(function).parameters.values())
                self.assertEqual([str(parameter) for parameter in parameters], ["self"] + awaited, (name, method))
                for parameter in parameters:
                    self.assertEqual(parameter.kind, parameter.POSITIONAL_OR_KEYWORD, (name, method))


if __name__ == "__main__":
    unittest.main()
