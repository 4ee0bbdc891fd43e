"""The interface: what is defined where, with which arguments; and what the package's folder holds."""

import ast
import importlib
import inspect
import pathlib
import unittest

FOLDER = pathlib.Path(__file__).resolve().parent.parent / "splitsays"

# Each file: its names, and their arguments in their sequence.
INTERFACE = {
    "errors": {
        "SayError": None, "BadRow": ["path"], "BadSheet": ["path"], "BadClaim": ["path"], "BadRules": ["path"],
        "BadText": ["place"], "TooGreat": None, "BadAct": ["word"], "NothingDone": None, "NameMissing": None,
        "UnknownName": ["name"],
    },
    "words": {"is_word": ["value"], "is_integer": ["value"], "is_number": ["value"]},
    "rows": {
        "is_lot": ["value"], "check_row": ["value"], "lot_at": ["row", "moment"],
        "holds": ["row", "letter", "moment"], "letters_of": ["row"], "one_form": ["row"],
        "are_alike": ["one", "other"], "nearest_unlike": ["one", "other"], "shifted": ["row", "by"],
        "mirrored_row": ["row"], "joined_rows": ["one", "other", "moment"], "with_lot": ["row", "moment", "lot"],
    },
    "lexemes": {"lexemes": ["text"]},
    "rowtexts": {"row_text": ["row"], "lot_text": ["lot"], "read_row": ["text"]},
    "sheets": {
        "check_sheet": ["value"], "needed": ["sheet"], "letters_in": ["sheet"], "part": ["sheet", "number"],
        "tidy": ["sheet"], "put": ["word", "one", "other"], "denied": ["sheet"], "mirrored_sheet": ["sheet"],
    },
    "sheettexts": {"sheet_text": ["sheet"], "read_sheet": ["text"]},
    "truths": {
        "truth": ["sheet", "row", "moment"], "truths": ["sheet", "row", "moment"], "truth_row": ["sheet", "row"],
        "are_alike_on": ["one", "other", "row"], "nearest_apart": ["one", "other", "row"],
    },
    "shown": {"shown": ["sheet", "row", "moment"]},
    "canbe": {"can_be": ["sheet"], "is_always": ["sheet"], "alike": ["one", "other"]},
    "kinds": {
        "touched": ["sheet", "number"], "rests_on": ["sheet"], "is_past": ["sheet"], "is_now": ["sheet"],
        "is_future": ["sheet"], "is_split": ["sheet"], "kind": ["sheet"], "turns": ["sheet"], "weight": ["sheet"],
    },
    "drawing": {
        "drawn": ["sheet", "k", "j"], "judge_drawn": ["sheet", "k", "j", "value"], "left_to_draw": ["sheet"],
    },
    "splitting": {"split": ["sheet"], "cases": ["sheet"], "left_of": ["sheet", "row", "moment"]},
    "histories": {
        "state_behind": ["sheet", "left"], "next_state": ["sheet", "state", "lot"],
        "state_after": ["sheet", "state", "lots"], "says": ["sheet", "state"], "states_come_to": ["sheet", "lots"],
        "like_states": ["sheet", "lots"], "told_apart": ["sheet", "lots", "one", "other"],
    },
    "leftover": {"left_over": ["sheet", "lots"]},
    "claims": {
        "check_claim": ["value"], "free_names": ["claim"], "depth": ["claim"], "breadth": ["claim"],
        "claim_truth": ["claim", "row", "moment"],
    },
    "kamp": {"saying_of": ["claim"], "claim_of": ["sheet"]},
    "rules": {
        "check_rules": ["value"], "begin": ["book"], "keeps": ["book", "state", "lot"],
        "next_of": ["book", "state", "lot"], "good_states": ["book"], "rank": ["book", "state"],
        "worst": ["book", "state"], "answer": ["book", "state", "lot"],
    },
    # Of a class: the arguments with which it is made, and its methods with theirs.
    "house": {
        "House": {
            "__init__": ["book"], "book": [], "history": [], "state": [], "is_good": [], "act_word": ["act"],
            "do": ["act"], "undo": [], "redo": [], "acts": [], "mark": ["name"], "since": ["name"], "marks": [],
            "twin": [],
        },
    },
    "console": {"Console": {"__init__": ["house"], "answer": ["line"]}},
}

# What the package may import from outside of it.
LIBRARY = {"math": {"lcm"}}


def files():
    return sorted(path for path in FOLDER.rglob("*") if "__pycache__" not in path.parts)


class Interface(unittest.TestCase):
    def test_each_name_is_defined_in_its_file(self):
        for name, told in INTERFACE.items():
            tree = ast.parse((FOLDER / f"{name}.py").read_text())
            found = {node.name for node in tree.body if isinstance(node, (ast.FunctionDef, ast.ClassDef))}
            self.assertLessEqual(set(told), found)

    def test_arguments(self):
        for name, told in INTERFACE.items():
            module = importlib.import_module(f"splitsays.{name}")
            for word, arguments in told.items():
                if isinstance(arguments, list):
                    self.assertEqual(list(inspect.signature(getattr(module, word)).parameters), arguments, word)

    def test_methods_are_defined_in_the_class_itself(self):
        for name in ("house", "console"):
            module = importlib.import_module(f"splitsays.{name}")
            for word, methods in INTERFACE[name].items():
                found = vars(getattr(module, word))
                for method, arguments in methods.items():
                    self.assertEqual(list(inspect.signature(found[method]).parameters), ["self"] + arguments, method)


class Folder(unittest.TestCase):
    def test_it_holds_python_files_alone(self):
        self.assertIn(FOLDER / "__init__.py", files())
        for path in files():
            self.assertTrue(path.is_dir() or path.suffix == ".py", path)

    def test_sizes_and_signs(self):
        for path in files():
            text = path.read_text()
            lines = text.split("\n")
            self.assertLess(len(lines), 400, path)
            self.assertLessEqual(max(len(line) for line in lines), 120, path)
            self.assertTrue(all(sign == "\n" or " " <= sign <= "~" for sign in text), path)
            for node in ast.walk(ast.parse(text)):
                if isinstance(node, ast.FunctionDef):
                    self.assertLessEqual(node.end_lineno - node.lineno + 1, 40, node.name)

    def test_nothing_is_imported_from_outside(self):
        for path in files():
            for node in ast.walk(ast.parse(path.read_text())):
                self.assertNotIsInstance(node, ast.Import, path)
                if isinstance(node, ast.ImportFrom):
                    names = {name.name for name in node.names}
                    self.assertTrue(node.module.startswith("splitsays.") or names <= LIBRARY.get(node.module, set()))


if __name__ == "__main__":
    unittest.main()
