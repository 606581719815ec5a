"""Looks at the package's files: the interface's names, and the form in which they are written."""

import ast
import os
import unittest

import beatrows

FOLDER = os.path.dirname(os.path.abspath(beatrows.__file__))

TERM = {
    "names": [], "levels": [], "reckoned_by": ["values"], "renamed": ["names"], "told": [], "words": [],
}
EQUATION = {
    "told": [], "tells": [], "names": [], "term": [], "is_call": [], "renamed": ["names"], "words": [],
}
FUNCTIONS = {
    "words": {
        "is_whole": ["thing"], "is_within": ["thing", "low", "high"], "is_name": ["thing"], "is_pointed": ["thing"],
        "is_value": ["thing"], "own_words": [], "value_text": ["value"], "value_of": ["thing"],
    },
    "sums": {"ops_told": [], "reckoned": ["op", "one", "other"], "contrary": ["one"]},
    "terms": {"term_of": ["told"]},
    "termtext": {"read_term": ["text"]},
    "equations": {"equation_of": ["told"]},
    "nodes": {"node_of": ["told"], "same_node": ["one", "other"]},
    "nodetext": {"show_node": ["node"], "show_nodes": ["nodes"], "read_node": ["text"], "read_nodes": ["text"]},
    "programs": {"program_of": ["told"], "show_program": ["program"], "read_program": ["text"]},
    "writing": {
        "how_many": ["program", "name"], "written_out": ["program", "name"],
        "where_from": ["program", "name", "inner"], "name_at": ["program", "name", "firsts", "own"],
    },
    "clocks": {
        "clocks_of": ["node"], "clock_paper": ["node"], "ticks": ["clock", "values"], "names_by_clock": ["node"],
        "clock_beside": ["node", "one", "other"],
    },
    "clockpapers": {"is_clock_paper": ["node", "thing"], "is_clash": ["node", "thing"]},
    "reading": {
        "reads_of": ["node", "clocks"], "reached_from": ["node", "clocks", "name"],
        "way_between": ["node", "clocks", "one", "other"], "is_way": ["node", "clocks", "one", "other", "thing"],
    },
    "orders": {
        "order_of": ["node", "clocks"], "ranks_of": ["node", "clocks"], "is_order": ["node", "clocks", "thing"],
        "is_ring": ["node", "clocks", "thing"], "need_sound": ["node"],
    },
    "asking": {"run_by_asking": ["node", "rows"]},
    "running": {"is_run": ["node", "rows", "thing"]},
    "loops": {"run_loop": ["node", "rows"]},
    "apart": {"goes_apart": ["node", "one", "other", "rows"]},
    "looprows": {"is_loop": ["node", "thing"], "show_loop": ["loop"]},
    "fitting": {
        **{asked: ["program", "name"] for asked in ("clocks_by", "reads_by", "order_by", "sound_by")},
        **{asked: ["program", "name", "thing"] for asked in ("is_clash_by", "is_order_by", "is_ring_by")},
    },
    "telling": {"summary_of": ["program", "name"], "cells_in": ["program", "name"]},
    "together": {
        "run_by_parts": ["program", "name", "rows"], "deeds_of": ["program", "name"],
        "are_deeds": ["program", "name", "thing"],
    },
    "renaming": {
        "renamed": ["program", "nodes", "names"], "names_behind": ["program", "name", "names"],
        "named_row": ["row", "names"], "named_clock": ["clock", "names"],
    },
    "turning": {
        "turned": ["program", "name", "places"], "nodes_turned": ["program", "places"],
        "same_but_order": ["one", "other"],
    },
}
CLASSES = {
    "terms": {
        "Name": {"__init__": ["name"], **TERM}, "Value": {"__init__": ["value"], **TERM},
        "Two": {"__init__": ["op", "one", "other"], **TERM}, "Not": {"__init__": ["one"], **TERM},
        "Pick": {"__init__": ["by", "one", "other"], **TERM}, "Term": TERM,
    },
    "equations": {
        "Plain": EQUATION, "Before": EQUATION, "When": EQUATION, "Hold": EQUATION, "Like": EQUATION,
        "Same": EQUATION, "Call": EQUATION, "Equation": EQUATION,
    },
    "nodes": {
        "Node": {
            "__init__": ["name", "inputs", "outs", "rows"], "inputs": [], "outs": [], "names": [], "rows": [],
            "teller": ["name"], "has_calls": [], "told": [],
        },
    },
    "programs": {
        "Program": {
            "__init__": ["nodes"], "names": [], "named": ["name"], "calls_in": ["name"], "below": ["name"], "told": [],
        },
    },
    "asking": {
        "Asker": {
            "__init__": ["node"], "give": ["row"], "beats": [], "value": ["name", "beat"], "row": ["beat"],
            "outs_at": ["beat"], "stream": ["name"], "faults": [],
        },
    },
    "loops": {
        "Loop": {
            "__init__": ["node"], "rows": [], "cells": [], "step": ["row"], "beats": [], "faults": [],
            "stood_at": ["cells"],
        },
    },
    "parts": {
        "Part": {
            "__init__": ["program", "name"], "begin": ["ticks"], "give": ["name", "value"], "lacking": ["out"],
            "tell": ["out"], "close": [], "beats": [], "row": [], "cells": [],
        },
    },
    "desk": {"Desk": {"__init__": [], "say": ["line"]}},
}
BUILTINS = (
    "len range enumerate zip min max sum abs sorted reversed int str bool bytes list tuple dict set frozenset "
    "isinstance ord repr any all divmod pow ValueError NotImplementedError"
).split()


def files():
    """Each file of the package, its text and its tree, by its name without the ending."""
    found = {}
    for name in sorted(os.listdir(FOLDER)):
        if name != "__pycache__":
            with open(os.path.join(FOLDER, name), encoding="utf-8") as held:
                text = held.read()
            found[name.removesuffix(".py")] = (name, text, ast.parse(text))
    return found


def defined(tree, kind):
    return {row.name: row for row in tree.body if isinstance(row, kind)}


def parameters(function):
    return [each.arg for each in function.args.args]


class InterfaceTest(unittest.TestCase):
    def test_functions_are_defined_in_their_files(self):
        for file, functions in FUNCTIONS.items():
            found = defined(files()[file][2], ast.FunctionDef)
            for name, wanted in functions.items():
                self.assertEqual(parameters(found[name]), wanted, name)

    def test_classes_define_their_methods_themselves(self):
        for file, classes in CLASSES.items():
            found = defined(files()[file][2], ast.ClassDef)
            for name, methods in classes.items():
                own = {row.name: row for row in found[name].body if isinstance(row, ast.FunctionDef)}
                for method, wanted in methods.items():
                    self.assertEqual(parameters(own[method]), ["self", *wanted], f"{name}.{method}")


class FormTest(unittest.TestCase):
    def test_files(self):
        for name, text, _ in files().values():
            self.assertTrue(name.endswith(".py"), name)
            self.assertEqual([sign for sign in text if sign != "\n" and not " " <= sign <= "~"], [], name)
            rows = text.split("\n")
            self.assertLessEqual(len(rows), 399, name)
            self.assertLessEqual(max(len(row) for row in rows), 120, name)

    def test_functions_are_small_and_without_decorators(self):
        for name, _, tree in files().values():
            for row in ast.walk(tree):
                if isinstance(row, (ast.FunctionDef, ast.ClassDef)):
                    self.assertEqual(row.decorator_list, [], f"{name} {row.name}")
                if isinstance(row, ast.FunctionDef):
                    self.assertLessEqual(row.end_lineno - row.lineno + 1, 40, f"{name} {row.name}")

    def test_modules_contain_only_what_they_may(self):
        kinds = (ast.ImportFrom, ast.FunctionDef, ast.ClassDef, ast.Assign)
        for name, _, tree in files().values():
            for row in tree.body[1:]:
                self.assertIsInstance(row, kinds, name)
            self.assertTrue(ast.get_docstring(tree), name)

    def test_imports_name_the_files_that_define_the_names(self):
        trees = files()
        for name, _, tree in trees.values():
            for row in ast.walk(tree):
                self.assertNotIsInstance(row, ast.Import, name)
                if isinstance(row, ast.ImportFrom):
                    package, file = row.module.split(".")
                    self.assertEqual((package, row.level), ("beatrows", 0), name)
                    other = trees[file][2]
                    known = [*defined(other, ast.FunctionDef), *defined(other, ast.ClassDef)]
                    known += [each.targets[0].id for each in other.body if isinstance(each, ast.Assign)]
                    for alias in row.names:
                        self.assertIn(alias.name, known, name)
                        self.assertIsNone(alias.asname, name)

    def test_no_two_files_import_from_each_other(self):
        rests = {}
        for name, (_, _, tree) in files().items():
            rests[name] = {row.module.split(".")[1] for row in tree.body if isinstance(row, ast.ImportFrom)}
        while rests:
            free = [name for name, others in rests.items() if not others & set(rests)]
            self.assertTrue(free, rests)
            for name in free:
                del rests[name]

    def test_builtins_and_texts(self):
        for name, _, tree in files().values():
            own = set(BUILTINS)
            for row in ast.walk(tree):
                if isinstance(row, (ast.FunctionDef, ast.ClassDef)):
                    own.add(row.name)
                if isinstance(row, ast.ImportFrom):
                    own.update(alias.name for alias in row.names)
                if isinstance(row, ast.arg):
                    own.add(row.arg)
            for row in ast.walk(tree):
                if isinstance(row, ast.Call) and isinstance(row.func, ast.Name):
                    self.assertIn(row.func.id, own, name)
                if isinstance(row, ast.Constant):
                    self.assertNotIsInstance(row.value, (float, bytes), name)
                if isinstance(row, ast.Constant) and isinstance(row.value, str):
                    self.assertNotIn("%", row.value, name)


if __name__ == "__main__":
    unittest.main()
