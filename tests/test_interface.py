"""The interface: each name stands in its file, with its arguments."""

import importlib
import inspect
import unittest

FUNCTIONS = {
    "boxes": {"overlaps": "boxes places", "is_picture": "boxes thing"},
    "books": {
        "left_of": "boxes picture", "above": "boxes picture", "ring": "many book", "is_ring": "many book thing",
        "passed_on": "many book", "count_orders": "many book", "order_at": "many book number",
    },
    "strokes": {
        "moved": "boxes picture stroke", "places_at": "boxes picture stroke moment", "is_free": "boxes picture thing",
        "first_hit": "boxes picture stroke",
    },
    "scripts": {
        "led": "boxes picture script", "is_script": "boxes picture thing", "pictures": "boxes picture script",
        "taken_back": "boxes picture script", "joined": "boxes picture script",
    },
    "boards": {
        "fewest": "boxes one other", "shortest": "boxes one other", "script_by": "boxes one other ways",
        "twist": "boxes one other way", "is_twist": "boxes one other way thing",
    },
    "rules": {
        "is_keeping": "boxes rules thing", "fewest_kept": "boxes rules one other",
        "shortest_kept": "boxes rules one other",
    },
    "columns": {
        "is_within": "boxes width thing", "broad": "boxes width", "barring": "boxes width one other",
        "column_script": "boxes width one other", "column_three": "boxes width one other",
    },
    "lists": {
        "listed": "boxes list", "broadest": "boxes one other", "list_of": "boxes picture",
        "stand": "boxes width one other", "turned": "boxes one other", "can_pass": "boxes width one other",
        "is_stand": "boxes width one other thing",
    },
    "passing": {
        "lists_in_pass": "boxes width list", "fewest_passes": "boxes width one other",
        "passes": "boxes width one other", "is_passing": "lanes thing", "figures": "lanes one other",
    },
    "fading": {
        "fewest_fades": "lanes one other", "excess": "lanes one other parting", "fades": "lanes one other",
        "parting": "lanes one other", "is_fades": "lanes one other thing", "is_parting": "one other thing",
    },
    "lanes": {"forever": "lists", "crowd": "lists"},
    "rounds": {
        "stepped": "boxes width list steps", "rounds": "boxes width one other", "knot": "boxes width one other",
        "round_steps": "boxes width one other", "is_rounds": "boxes width one other thing",
        "is_knot": "boxes width one other thing",
    },
    "running": {"ran": "scene boxes begins most", "picture_of": "scene boxes begins"},
    "films": {"film_script": "boxes film", "shown": "boxes picture script time"},
    "texts": {
        "picture_text": "boxes picture", "script_text": "boxes script", "read_picture": "text", "read_script": "boxes text",
    },
    "sources": {"scene_text": "scene", "read_scene": "text"},
    "drawings": {"drawn": "boxes picture", "read_drawn": "text"},
}

# For each method its arguments behind the object itself.
CLASSES = {
    "boxes": {"Boxes": {"__init__": "sizes", "__eq__": "other"}},
    "scenes": {"Scene": {"__init__": "cells routines", "__eq__": "other"}},
    "running": {
        "SceneRunner": {
            "__init__": "scene boxes begins", "word": "", "coming": "", "opened": "", "contents": "", "places": "",
            "step": "", "back": "", "steps": "", "go": "most", "copy": "",
        },
    },
    "pages": {
        "Page": {
            "__init__": "boxes picture width", "boxes": "", "picture": "", "width": "", "stroke": "stroke", "lead": "picture",
            "nudge": "box x y", "grow": "box width height", "add": "width height x y", "drop": "box", "undo": "", "redo": "",
            "deeds": "", "strokes": "", "copy": "", "trying": "action",
        },
    },
    "desks": {"Desk": {"__init__": "", "tell": "line"}},
}


def module(name):
    return importlib.import_module(f"fourstrokes.{name}")


class Interface(unittest.TestCase):

    def test_each_function_is_defined_in_its_file(self):
        for name, functions in FUNCTIONS.items():
            for word in functions:
                with self.subTest(word):
                    found = getattr(module(name), word)
                    self.assertTrue(inspect.isfunction(found))
                    self.assertEqual((found.__module__, found.__name__), (f"fourstrokes.{name}", word))

    def test_each_function_takes_its_arguments(self):
        for name, functions in FUNCTIONS.items():
            for word, arguments in functions.items():
                with self.subTest(word):
                    inspect.signature(getattr(module(name), word)).bind(*arguments.split())

    def test_each_class_is_defined_in_its_file_with_its_methods(self):
        for name, classes in CLASSES.items():
            for word, methods in classes.items():
                with self.subTest(word):
                    found = getattr(module(name), word)
                    self.assertEqual(found.__module__, f"fourstrokes.{name}")
                    for method, arguments in methods.items():
                        self.assertTrue(inspect.isfunction(vars(found)[method]), method)
                        inspect.signature(vars(found)[method]).bind("self", *arguments.split())


if __name__ == "__main__":
    unittest.main()
