"""The rules of the language that can be seen at a glance, and where the interface's names stand."""

import ast
import builtins
import importlib
import inspect
import pathlib
import unittest

PACKAGE = pathlib.Path(__file__).resolve().parent.parent / "dealtongue"
FILES = sorted(PACKAGE.glob("*.py"))
INTERFACE = {
    "days": ("is_rest", "is_span", "is_work", "after", "work_between"),
    "agreements": ("is_agreement", "first_wrong"),
    "texts": ("show_agreement", "show_condition", "read_agreement", "read_condition"),
    "letters": ("is_letter", "are_letters"),
    "reckoner": ("State", "reckoned"),
    "quicker": ("quick", "quick_on", "turnings"),
    "coins": ("ledger", "balances"),
    "causes": ("chain", "is_chain", "weighed", "idle_why"),
    "versions": ("reckoned_by", "reached_by"),
    "disputes": ("readings", "asked"),
    "books": ("Book",),
    "ahead": ("may_come",),
    "keeping": ("fate", "sends"),
    "alike": ("apart",),
}
METHODS = {
    ("reckoner", "State"): ("things", "broken", "fees", "owed", "may", "had", "put_by", "holds", "__eq__"),
    ("books", "Book"): ("do", "run", "undo", "again", "told", "readings", "letters", "deeds", "changed", "asked", "today"),
}
LIBRARY = {"heapq": ("heappush", "heappop"), "math": ("lcm",)}
PARAMETERS = {
    ("errors", "NoAgreement"): "(place)", ("errors", "Twice"): "(said, turn)",
    ("days", "is_rest"): "(thing)", ("days", "is_span"): "(thing)", ("days", "is_work"): "(day, rest)",
    ("days", "after"): "(day, span, rest)", ("days", "work_between"): "(one, other, rest)",
    ("agreements", "is_agreement"): "(thing)", ("agreements", "first_wrong"): "(thing)",
    ("texts", "show_agreement"): "(agreement)", ("texts", "show_condition"): "(condition)",
    ("texts", "read_agreement"): "(text)", ("texts", "read_condition"): "(text)",
    ("letters", "is_letter"): "(thing)", ("letters", "are_letters"): "(thing)",
    ("reckoner", "reckoned"): "(agreement, letters, day)", ("quicker", "quick"): "(agreement, letters, day)",
    ("quicker", "quick_on"): "(agreement, letters, state, day)", ("quicker", "turnings"): "(agreement, letters, day)",
    ("coins", "ledger"): "(agreement, letters, day)", ("coins", "balances"): "(agreement, letters, day)",
    ("causes", "chain"): "(agreement, letters, day, happening)", ("causes", "is_chain"): "(agreement, letters, day, thing)",
    ("causes", "weighed"): "(agreement, letters, day, condition)",
    ("causes", "idle_why"): "(agreement, letters, day, said, turn)",
    ("versions", "reckoned_by"): "(versions, letters, day)",
    ("versions", "reached_by"): "(versions, letters, day, *, place)",
    ("disputes", "readings"): "(versions, letters, open_ones, day)",
    ("disputes", "asked"): "(versions, letters, open_ones, day, condition)",
    ("books", "Book"): "(agreement, *, today=0)",
    ("ahead", "may_come"): "(agreement, condition)",
    ("keeping", "fate"): "(agreement, party, *, letters=None, day=0)",
    ("keeping", "sends"): "(agreement, party, mover, letters, day)",
    ("alike", "apart"): "(one, other)",
}
METHOD_PARAMETERS = {
    ("reckoner", "State", "holds"): "(self, condition)", ("reckoner", "State", "things"): "(self)",
    ("books", "Book", "do"): "(self, deed)", ("books", "Book", "run"): "(self, deeds)",
    ("books", "Book", "undo"): "(self)", ("books", "Book", "again"): "(self)",
    ("books", "Book", "told"): "(self, day, *, known=None)", ("books", "Book", "readings"): "(self, day, *, known=None)",
    ("books", "Book", "letters"): "(self)", ("books", "Book", "deeds"): "(self)", ("books", "Book", "today"): "(self)",
    ("books", "Book", "changed"): "(self, day, *, known)",
    ("books", "Book", "asked"): "(self, condition, day, *, known=None)",
}


def imported_by(path):
    """The modules of the package from which a file of it imports; of the library only what the rules let it."""
    found = []
    for node in ast.walk(ast.parse(path.read_text())):
        if isinstance(node, ast.ImportFrom):
            names = [name.name for name in node.names]
            if not set(names) <= set(LIBRARY.get(node.module, ())):
                found.append(node.module)
    return found


class Rules(unittest.TestCase):
    def test_the_folder_holds_python_files_alone(self):
        names = [path.name for path in PACKAGE.iterdir() if path.name != "__pycache__"]
        self.assertEqual(sorted(names), [path.name for path in FILES])
        self.assertIn("__init__.py", names)

    def test_sizes_and_characters(self):
        for path in FILES:
            text = path.read_text()
            with self.subTest(path.name):
                self.assertTrue(all(sign == "\n" or " " <= sign <= "~" for sign in text))
                self.assertLessEqual(len(text.splitlines()), 399)
                self.assertLessEqual(max(map(len, text.splitlines())), 120)
                for node in ast.walk(ast.parse(text)):
                    if isinstance(node, ast.FunctionDef):
                        self.assertLessEqual(node.end_lineno - node.lineno + 1, 40, node.name)

    def test_imports_are_from_the_package_and_in_no_ring(self):
        above = {f"dealtongue.{path.stem}": imported_by(path) for path in FILES}
        while above:
            free = [name for name, modules in above.items() if not set(modules) & set(above)]
            self.assertTrue(free, above)
            for name in free:
                self.assertTrue(all(module.startswith("dealtongue.") for module in above.pop(name)))
        for path in FILES:
            self.assertFalse([node for node in ast.walk(ast.parse(path.read_text())) if isinstance(node, ast.Import)])

    def test_no_name_hides_another_one(self):
        for path in FILES:
            tree = ast.parse(path.read_text())
            above = {node.name for node in tree.body if isinstance(node, ast.ClassDef)}
            for node in tree.body:
                if isinstance(node, ast.ImportFrom):
                    above.update(name.name for name in node.names)
            for node in ast.walk(tree):
                if isinstance(node, ast.FunctionDef):
                    names = {name.id for name in ast.walk(node) if isinstance(name, ast.Name)
                             and isinstance(name.ctx, ast.Store)}
                    names.update(name.arg for name in node.args.args)
                    for name in names:
                        self.assertNotIn(name, above, path.name)
                        self.assertFalse(hasattr(builtins, name), name)

    def test_all_imports_are_used(self):
        for path in FILES:
            tree = ast.parse(path.read_text())
            used = {node.id for node in ast.walk(tree) if isinstance(node, ast.Name)}
            for node in tree.body:
                if isinstance(node, ast.ImportFrom):
                    self.assertLessEqual({name.name for name in node.names}, used, path.name)

    def test_the_interface_stands_where_it_is_listed(self):
        for file, names in INTERFACE.items():
            module = importlib.import_module(f"dealtongue.{file}")
            for name in names:
                with self.subTest(name):
                    self.assertEqual(getattr(module, name).__module__, f"dealtongue.{file}")

    def test_methods_stand_in_the_body_of_their_class(self):
        for (file, name), methods in METHODS.items():
            found = getattr(importlib.import_module(f"dealtongue.{file}"), name)
            for method in methods:
                self.assertIn(method, vars(found))

    def test_parameters(self):
        for (file, name), parameters in PARAMETERS.items():
            function = getattr(importlib.import_module(f"dealtongue.{file}"), name)
            self.assertEqual(str(inspect.signature(function)), parameters)
        for (file, name, method), parameters in METHOD_PARAMETERS.items():
            found = getattr(importlib.import_module(f"dealtongue.{file}"), name)
            self.assertEqual(str(inspect.signature(getattr(found, method))), parameters)

    def test_no_name_is_a_method_and_an_attribute(self):
        methods, attributes = set(), set()
        for path in FILES:
            for node in ast.walk(ast.parse(path.read_text())):
                if isinstance(node, ast.ClassDef):
                    methods.update(part.name for part in node.body if isinstance(part, ast.FunctionDef))
                if isinstance(node, ast.Attribute) and isinstance(node.ctx, ast.Store):
                    attributes.add(node.attr)
        self.assertFalse(methods & attributes)

    def test_statements_that_are_not_used(self):
        kinds = (ast.Global, ast.GeneratorExp, ast.Yield, ast.YieldFrom, ast.Try, ast.With, ast.AsyncFunctionDef)
        for path in FILES:
            for node in ast.walk(ast.parse(path.read_text())):
                self.assertNotIsInstance(node, kinds, path.name)
