"""The interface: each name stands in its file, with its arguments."""

import ast
import importlib
import unittest
from pathlib import Path

import latehouse

FOLDER = Path(latehouse.__file__).parent
REFUSALS = ["BadCount", "BadHouse", "BadRow", "BadWord", "Forged", "NoLetter", "NotWritten", "NoText"]
FUNCTIONS = {
    "counts": {"most_liars": ["count"], "enough": ["count"], "shared": ["count"]},
    "words": {"is_row": ["thing"], "caller": ["count", "number"], "is_word": ["count", "thing"],
              "are_unlike": ["one", "other"]},
    "notes": {"shown": ["word"], "read": ["count", "text"]},
    "judge": {"is_backing": ["count", "number", "row", "words"], "blamed": ["ones", "others"]},
}
METHODS = {
    ("house", "House"): {"__init__": ["count", "own"], "call": ["row"], "hear": ["word"], "ledger": [],
                         "backing": ["number"], "caught": []},
    ("post", "Post"): {"__init__": [], "send": ["letter"], "bring": ["number"], "waiting": []},
    ("town", "Town"): {"__init__": ["count", "liars"], "call": ["house", "row"], "bring": ["number"],
                       "lie": ["house", "receiver", "word"], "waiting": [], "spoken": [], "ledger": ["house"],
                       "backing": ["house", "number"], "caught": ["house"]},
}


def tree(name):
    return ast.parse((FOLDER / f"{name}.py").read_text(encoding="utf-8"))


def defined(body, kind):
    return {node.name: node for node in body if isinstance(node, kind)}


def arguments(node):
    return [part.arg for part in node.args.args]


class InterfaceTest(unittest.TestCase):
    def test_functions(self):
        for name, functions in FUNCTIONS.items():
            found = defined(tree(name).body, ast.FunctionDef)
            for function, parts in functions.items():
                with self.subTest(file=name, function=function):
                    self.assertEqual(arguments(found[function]), parts)

    def test_classes_and_their_methods(self):
        for (name, kind), methods in METHODS.items():
            found = defined(defined(tree(name).body, ast.ClassDef)[kind].body, ast.FunctionDef)
            for method, parts in methods.items():
                with self.subTest(file=name, method=method):
                    self.assertEqual(arguments(found[method]), ["self", *parts])

    def test_refusals(self):
        self.assertLessEqual({"HouseError", *REFUSALS}, set(defined(tree("errors").body, ast.ClassDef)))

    def test_arguments_are_named_as_written(self):
        for name, functions in FUNCTIONS.items():
            file = importlib.import_module(f"latehouse.{name}")
            handed = {"count": 4, "number": 0, "row": "tea", "words": [], "thing": None, "ones": [], "others": [],
                      "one": ("say", 0, "tea", 0), "other": ("say", 0, "tea", 0), "word": ("say", 0, "tea", 0),
                      "text": "say 0 tea by 0"}
            for function, parts in functions.items():
                with self.subTest(file=name, function=function):
                    getattr(file, function)(**{part: handed[part] for part in parts})

    def test_no_two_files_import_from_each_other(self):
        imports = {path.stem: {node.module.split(".")[1] for node in ast.walk(tree(path.stem))
                               if isinstance(node, ast.ImportFrom)} for path in FOLDER.glob("*.py")}
        while imports:
            free = [name for name, others in imports.items() if not others & set(imports)]
            self.assertTrue(free)
            for name in free:
                del imports[name]


if __name__ == "__main__":
    unittest.main()
