"""The package itself: its files, their sizes and signs, and where the names of the interface stand."""

import ast
import os
import unittest

PACKAGE = os.path.join(os.path.dirname(os.path.dirname(os.path.abspath(__file__))), "strokeguess")

INTERFACE = {
    "errors.py": ["NoTouch", "NoText", "Late", "IsDown", "NotDown", "NoHope", "NoPart", "NoWatch", "NoCount"],
    "scenes.py": ["is_scene", "parts_of", "wishes_of"],
    "machines.py": ["is_machine", "machine_of", "stepped"],
    "ways.py": ["way_at", "corners"],
    "touches.py": ["is_touch", "first_wrong", "strokes_of"],
    "measures.py": ["is_beyond", "is_spread", "is_turned", "flung"],
    "hopes.py": [],
    "contests.py": [],
    "reader.py": ["Reader"],
    "shelves.py": ["Shelves"],
    "whys.py": ["is_how", "paper", "first_wrong_row"],
    "likeness.py": ["alike", "claimed", "led", "smaller"],
    "plays.py": ["plain", "play", "leads"],
    "texts.py": ["show_touches", "read_touches", "show_scene", "read_scene", "show_told", "read_told"],
    "desk.py": ["Desk", "read_desk"],
}

METHODS = {
    ("reader.py", "Reader"): ["put", "go", "told", "how", "places", "shown", "heard", "moment", "fingers", "out", "back",
                              "copy", "labels"],
    ("shelves.py", "Shelves"): ["step", "places", "copy"],
    ("desk.py", "Desk"): ["put", "go", "several", "out", "back", "cut", "watch", "drop", "watched", "many", "told", "how",
                          "places", "shown", "heard", "written"],
}

# What stands behind a star, by function or class.
BY_NAME = {
    ("ways.py", "way_at"): ["places"], ("ways.py", "corners"): ["places"], ("machines.py", "machine_of"): ["gap"],
    ("reader.py", "Reader"): ["slop", "gap", "guessing"], ("desk.py", "Desk"): ["slop", "gap", "guessing"],
    ("whys.py", "is_how"): ["slop", "gap"], ("whys.py", "first_wrong_row"): ["slop", "gap"],
    ("plays.py", "plain"): ["slop"], ("plays.py", "play"): ["slop", "gap"], ("likeness.py", "led"): ["slop"],
}


def files():
    return sorted(name for name in os.listdir(PACKAGE) if name != "__pycache__")


def text_of(name):
    with open(os.path.join(PACKAGE, name), encoding="utf-8") as held:
        return held.read()


class Package(unittest.TestCase):
    def test_it_holds_nothing_but_its_files(self):
        self.assertEqual([name for name in files() if not name.endswith(".py") or not name.islower()], [])
        self.assertIn("__init__.py", files())

    def test_the_names_of_the_interface_are_defined_in_their_files(self):
        for name, wanted in INTERFACE.items():
            defined = [row.name for row in ast.parse(text_of(name)).body
                       if isinstance(row, (ast.FunctionDef, ast.ClassDef))]
            self.assertEqual([word for word in wanted if word not in defined], [], name)

    def test_the_methods_of_the_interface_are_defined_in_their_classes(self):
        for (name, owner), wanted in METHODS.items():
            made = [row for row in ast.parse(text_of(name)).body if isinstance(row, ast.ClassDef) and row.name == owner]
            defined = [row.name for row in made[0].body if isinstance(row, ast.FunctionDef)]
            self.assertEqual([word for word in wanted if word not in defined], [], owner)

    def test_parameters_behind_a_star(self):
        for name, wanted in INTERFACE.items():
            for row in ast.parse(text_of(name)).body:
                if getattr(row, "name", None) in wanted and name != "errors.py":
                    begin = row
                    if isinstance(row, ast.ClassDef):
                        begin = [inner for inner in row.body if getattr(inner, "name", None) == "__init__"][0]
                    behind = [one.arg for one in begin.args.kwonlyargs]
                    self.assertEqual(behind, BY_NAME.get((name, row.name), []), row.name)

    def test_sizes_and_signs(self):
        for name in files():
            with self.subTest(name):
                rows = text_of(name).split("\n")
                self.assertLessEqual(len(rows), 399)
                self.assertLessEqual(max(len(row) for row in rows), 120)
                self.assertEqual([row for row in rows if any(not " " <= sign <= "~" for sign in row)], [])

    def test_functions_are_small(self):
        for name in files():
            for row in ast.walk(ast.parse(text_of(name))):
                if isinstance(row, ast.FunctionDef):
                    self.assertLessEqual(row.end_lineno - row.lineno + 1, 40, (name, row.name))


if __name__ == "__main__":
    unittest.main()
