"""The names of the interface, and the rules of form that a short look can tell."""

import ast
import importlib
import inspect
import pathlib
import unittest

from loops import loops_that_change

PACKAGE = pathlib.Path(__file__).resolve().parent.parent / "restingfixes"
FILES = sorted(PACKAGE.glob("*.py"))

INTERFACE = {
    "errors": {"InvalidText": ["at"], "InvalidLine": ["line", "reason"]},
    "books": {"check_book": ["book"], "letters": ["book"]},
    "texts": {"book_text": ["book"], "read_book": ["text"]},
    "rounds": {
        "findings": ["book", "text"],
        "taken": ["book", "text"],
        "one_round": ["book", "text"],
        "rounds": ["book", "text", "many"],
        "course": ["book", "text", "most"],
        "choices": ["book", "text"],
        "ends": ["book", "text"],
    },
    "clean": {
        "count_clean": ["book", "letters", "length"],
        "clean_at": ["book", "letters", "length", "number"],
        "number_of": ["book", "letters", "text"],
        "longest_clean": ["book", "letters"],
    },
    "resting": {"restless": ["book", "many"], "rounds_needed": ["book"], "put_out": ["book", "many"]},
    "likeness": {"alike": ["one", "other", "many"], "parted": ["one", "other", "many"], "not_twice": ["book"]},
    "choosing": {"two_ends": ["book"]},
    "waking": {"wake": ["book", "one", "other"], "wakes": ["book"], "row_of_wakes": ["book"]},
    "reaching": {"reach": ["book"], "far": ["book", "many"], "apart": ["book"]},
    "counting": {"count_resting": ["book", "letters", "length", "many"]},
    "weights": {"weights": ["book"]},
    "coming": {"comes_round": ["book", "most"]},
    "told": {"told_back": ["pairs"]},
    "values": {"Row": ["books"]},
    "papers": {"paper_text": ["book", "text"], "read_paper": ["text"]},
    "desk": {"Desk": ["book", "text"], "try_all": ["desk", "deeds"]},
}

# The methods of each class, with what they take besides their own object.
METHODS = {
    ("values", "Row"): {
        "__call__": ["text"],
        "__rshift__": ["other"],
        "__eq__": ["other"],
        "__ne__": ["other"],
        "__len__": [],
        "__iter__": [],
        "__contains__": ["value"],
        "parted": ["other"],
    },
    ("desk", "Desk"): {
        "put": ["at", "word"],
        "strike": ["begin", "end"],
        "rule": ["book"],
        "round": [],
        "undo": [],
        "redo": [],
        "findings": [],
        "taken": [],
        "trial": [],
        "__len__": [],
    },
}
PROPERTIES = {("values", "Row"): ["books"], ("desk", "Desk"): ["book", "text"]}


def found(module, name):
    return getattr(importlib.import_module(f"restingfixes.{module}"), name)


class Interface(unittest.TestCase):
    def test_names_and_arguments(self):
        for name, rows in INTERFACE.items():
            module = importlib.import_module(f"restingfixes.{name}")
            for called, arguments in rows.items():
                value = getattr(module, called)
                self.assertEqual(value.__module__, module.__name__)
                self.assertEqual(list(inspect.signature(value).parameters), arguments)


    def test_methods_and_properties_stand_in_the_class_itself(self):
        for (module, name), rows in METHODS.items():
            own = vars(found(module, name))
            for called, arguments in rows.items():
                self.assertTrue(inspect.isfunction(own[called]), (name, called))
                self.assertEqual(list(inspect.signature(own[called]).parameters), ["self"] + arguments)
            for called in PROPERTIES[module, name]:
                self.assertIsInstance(own[called], property)

    def test_errors(self):
        for name in ("InvalidWord", "InvalidBook", "InvalidNumber", "InvalidLetters", "TooMany", "InvalidPairs",
                     "InvalidRow", "InvalidPlace", "NothingToUndo", "NothingToRedo", "UnknownDeed", "FixError"):
            self.assertEqual(found("errors", name).__module__, "restingfixes.errors")


class Form(unittest.TestCase):
    def test_the_folder_holds_files_of_the_package_alone(self):
        others = [path.name for path in PACKAGE.iterdir() if path not in FILES]
        self.assertEqual([name for name in others if name != "__pycache__"], [])

    def test_lines_and_signs(self):
        for path in FILES:
            text = path.read_bytes().decode("ascii")
            self.assertEqual([sign for sign in text if sign < " " and sign != "\n"], [], path)
            self.assertLessEqual(len(text.splitlines()), 399, path)
            self.assertLessEqual(max([len(line) for line in text.splitlines()], default=0), 120, path)

    def test_functions_are_short(self):
        for path in FILES:
            for node in ast.walk(ast.parse(path.read_text())):
                if isinstance(node, ast.FunctionDef):
                    self.assertLessEqual(node.end_lineno - node.lineno + 1, 40, (path, node.name))

    def test_imports_are_from_the_package_or_the_library_that_is_let(self):
        let = ("heapq", "math", "itertools", "collections", "__future__")
        for path in FILES:
            for node in ast.walk(ast.parse(path.read_text())):
                self.assertNotIsInstance(node, ast.Import, path)
                if isinstance(node, ast.ImportFrom):
                    self.assertTrue(node.module in let or node.module.startswith("restingfixes."), path)

    def test_no_loop_changes_what_it_walks(self):
        for path in FILES:
            self.assertEqual(loops_that_change(path.read_text()), [], path)


class Loops(unittest.TestCase):
    """The look at loops itself, as one that sees nothing would pass always."""

    def rows(self, *lines):
        return loops_that_change("\n".join(["def f(row, rows, box):"] + ["    " + line for line in lines]))

    def test_a_list_that_has_a_second_name_is_seen(self):
        grown = ("while row:", "    more = []", "    for x in {}:", "        more.append(x)", "    row = more")
        for walked, wanted in (("row", [4]), ("enumerate(row)", [4]), ("row or rows", [4]),
                               ("list(row)", []), ("row[:]", []), ("sorted(row)", []), ("rows", [])):
            self.assertEqual(self.rows(*[line.format(walked) for line in grown]), wanted, walked)

    def test_changes_of_each_kind_are_seen(self):
        for change in ("row.append(x)", "row[0] = x", "row[0] += 1", "row += [x]", "del row[0]", "heappush(row, x)",
                       "y = row.pop()", "(row if x else rows).clear()"):
            self.assertEqual(self.rows("for x in row:", "    " + change), [2], change)
        self.assertEqual(self.rows("for x in box.row:", "    box.row.append(x)"), [2])
        self.assertEqual(self.rows("for x in rows[0]:", "    rows[0].append(x)"), [2])
        self.assertEqual(self.rows("row, more = rows, []", "for x in row:", "    rows.append(x)"), [3])
        self.assertEqual(self.rows("for k, x in box.items():", "    box[k] = x"), [2])
        self.assertEqual(self.rows("return [row.pop() for x in row]"), [2])

    def test_a_loop_that_changes_another_list_is_let(self):
        for change in ("rows.append(x)", "row = rows + [x]", "box.row[0] = x", "rows.extend(row)", "y = row[0]"):
            self.assertEqual(self.rows("for x in row:", "    " + change), [], change)
