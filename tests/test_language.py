"""The rules of the Python subset that can be checked line by line."""

import ast
import builtins
import os
import re
import unittest

PACKAGE = os.path.join(os.path.dirname(os.path.dirname(os.path.abspath(__file__))), "farreads")
LIBRARY = {"heapq", "math", "itertools", "collections"}
WHOLE = {"any", "all", "min", "max", "sum", "sorted"}
BARRED = "type typing enum Enum Flag Generic Protocol ABC namedtuple NamedTuple TypedDict dataclass overload contextmanager"
METHODS = {
    *"append clear copy count endswith extend find get index insert isalnum isalpha isdigit islower isspace".split(),
    *"isupper items join keys ljust lower lstrip partition pop remove replace reverse rfind rjust rpartition".split(),
    *"rsplit rstrip setdefault split splitlines startswith strip update upper values zfill bit_length".split(),
    *"removeprefix removesuffix".split(),
}


def files():
    found = {}
    for name in sorted(os.listdir(PACKAGE)):
        if name != "__pycache__":
            with open(os.path.join(PACKAGE, name), encoding="utf-8") as file:
                found[name] = file.read()
    return found


class LanguageTest(unittest.TestCase):
    def nodes(self, kinds):
        return [
            (name, node) for name, text in files().items() for node in ast.walk(ast.parse(text)) if isinstance(node, kinds)
        ]

    def test_files(self):
        self.assertIn("__init__.py", files())
        for name in files():
            self.assertRegex(name, r"^[a-z_][a-z0-9_]*\.py$")

    def test_sizes_and_characters(self):
        for name, text in files().items():
            lines = text.split("\n")
            self.assertLessEqual(len(lines), 399, name)
            for number, line in enumerate(lines, 1):
                self.assertLessEqual(len(line), 120, (name, number))
                self.assertTrue(all(" " <= sign <= "~" for sign in line), (name, number))

    def test_functions(self):
        for name, node in self.nodes(ast.FunctionDef):
            self.assertLessEqual(node.end_lineno - node.lineno + 1, 40, (name, node.name))

    def test_imports(self):
        self.assertEqual(self.nodes(ast.Import), [])
        for name, node in self.nodes(ast.ImportFrom):
            self.assertEqual(node.level, 0, name)
            if node.module not in LIBRARY:
                self.assertIn(node.module.replace("farreads.", "") + ".py", files(), name)

    def test_statements_and_signs_that_are_not_used(self):
        kinds = (ast.Global, ast.AsyncFunctionDef, ast.Div, ast.Set, ast.Await)
        self.assertEqual([(name, node.lineno) for name, node in self.nodes(kinds)], [])
        for name, node in self.nodes(ast.Constant):
            self.assertNotIsInstance(node.value, (float, complex), (name, node.lineno))

    def test_what_is_called_as_a_method_is_listed_or_defined(self):
        own = {node.name for _, node in self.nodes(ast.FunctionDef)}
        for name, node in self.nodes(ast.Call):
            if isinstance(node.func, ast.Attribute):
                self.assertIn(node.func.attr, own | METHODS | {"add", "discard", "__init__"}, (name, node.lineno))

    def test_no_generator_beside_a_class_that_compares(self):
        for name, node in self.nodes(ast.Call):
            if isinstance(node.func, ast.Name) and node.func.id in WHOLE:
                for given in node.args:
                    self.assertNotIsInstance(given, ast.GeneratorExp, (name, node.lineno))

    def test_no_name_of_a_builtin_or_an_import_is_bound(self):
        taken = set(dir(builtins)) - {"_"}
        for name, text in files().items():
            tree = ast.parse(text)
            imports = {each.name for node in ast.walk(tree) if isinstance(node, ast.ImportFrom) for each in node.names}
            bound = [node.arg for node in ast.walk(tree) if isinstance(node, ast.arg)]
            bound += [node.id for node in ast.walk(tree) if isinstance(node, ast.Name) and isinstance(node.ctx, ast.Store)]
            bound += [node.name for node in ast.walk(tree) if isinstance(node, (ast.FunctionDef, ast.ClassDef))]
            self.assertEqual(sorted((taken | imports) & set(bound)), [], name)

    def test_imports_name_the_file_that_defines(self):
        defined = {name: set(self.defined_names(ast.parse(text))) for name, text in files().items()}
        for name, node in self.nodes(ast.ImportFrom):
            if node.module not in LIBRARY:
                for each in node.names:
                    self.assertIn(each.name, defined[node.module.replace("farreads.", "") + ".py"], name)
                    self.assertIsNone(each.asname, name)

    def defined_names(self, tree):
        for node in tree.body:
            if isinstance(node, (ast.FunctionDef, ast.ClassDef)):
                yield node.name
            if isinstance(node, ast.Assign):
                yield node.targets[0].id

    def test_no_files_import_each_other(self):
        needs = {name: set() for name in files()}
        for name, node in self.nodes(ast.ImportFrom):
            if node.module not in LIBRARY:
                needs[name].add(node.module.replace("farreads.", "") + ".py")
        while needs:
            free = [name for name in needs if not needs[name] & set(needs)]
            self.assertNotEqual(free, [])
            needs = {name: needs[name] for name in needs if name not in free}

    def test_words_that_do_not_occur(self):
        for name, text in files().items():
            bare = re.sub(r'"""(.|\n)*?"""|#.*', "", text)
            self.assertEqual([word for word in BARRED.split() if re.search(rf"\b{word}\b", bare)], [], name)

    def test_no_loop_changes_what_it_goes_over(self):
        for name, loop in self.nodes(ast.For):
            gone_over = ast.unparse(loop.iter)
            for node in ast.walk(ast.Module(loop.body, [])):
                if isinstance(node, ast.Subscript) and isinstance(node.ctx, (ast.Store, ast.Del)):
                    self.assertNotEqual(ast.unparse(node.value), gone_over, (name, node.lineno))
                if isinstance(node, ast.Call) and isinstance(node.func, ast.Attribute):
                    self.assertNotEqual(ast.unparse(node.func.value), gone_over, (name, node.lineno))


if __name__ == "__main__":
    unittest.main()
