"""Those rules of the language that can be seen in a file's text or tree at a glance."""

import ast
import builtins
import os
import unittest

ROOT = os.path.dirname(os.path.dirname(os.path.abspath(__file__)))
PACKAGE = os.path.join(ROOT, "heardhouse")
BUILTINS = (
    "len range enumerate zip min max sum abs sorted reversed int str bool list tuple dict set isinstance ord "
    "repr any all divmod ValueError KeyError IndexError TypeError super"
).split()
# What may be imported from beside the package.
LIBRARY = {
    "heapq": "heappush heappop heapify heapreplace heappushpop", "math": "gcd lcm isqrt comb perm factorial",
    "itertools": "product combinations permutations",
}
INTERFACE = {
    "errors": "HouseError NoCalendar NoDay NoTerm NoCase NoPaper NoPerson NoWord NoNumber NoPlan NoMatter "
              "NoLaying NoAward NoPayment Twice NoText",
    "days": "is_calendar is_day is_term is_open within next_open end last_open",
    "papers": "is_case is_paper filed docket taken taking",
    "stands": "standing leans falls settled reopened",
    "seals": "sees view",
    "hearings": "lay lay_more clash is_laying",
    "costs": "is_award is_payment parted dues late balance",
    "court": "Court",
    "texts": "show_paper show_case read_paper read_case show_docket read_docket",
}
METHODS = {
    "Court": "file looked docket taken standing settled reopened view news dues late balance sees award pay",
}


def files():
    names = sorted(name for name in os.listdir(PACKAGE) if name != "__pycache__")
    return [os.path.join(PACKAGE, name) for name in names]


def read(path):
    with open(path, encoding="utf-8") as text:
        return text.read()


class Language(unittest.TestCase):
    def test_only_plain_files(self):
        for path in files():
            self.assertRegex(os.path.basename(path), r"^[a-z_]+\.py$")

    def test_signs_and_sizes(self):
        for path in files():
            lines = read(path).split("\n")
            self.assertLess(len(lines), 400, path)
            for line in lines:
                self.assertLessEqual(len(line), 120, path)
                self.assertTrue(all(" " <= sign <= "~" for sign in line), path)

    def test_functions_are_small_and_undecorated(self):
        for path in files():
            for node in ast.walk(ast.parse(read(path))):
                if isinstance(node, (ast.FunctionDef, ast.ClassDef)):
                    self.assertEqual(node.decorator_list, [])
                if isinstance(node, ast.FunctionDef):
                    self.assertLessEqual(node.end_lineno - node.lineno + 1, 40, node.name)

    def test_imports_come_from_the_package(self):
        for path in files():
            for node in ast.walk(ast.parse(read(path))):
                self.assertNotIsInstance(node, ast.Import)
                if isinstance(node, ast.ImportFrom):
                    self.assertEqual(node.level, 0)
                    if not node.module.startswith("heardhouse."):
                        for name in node.names:
                            self.assertIn(name.name, LIBRARY.get(node.module, "").split())
                            self.assertIsNone(name.asname)

    def test_only_named_builtins(self):
        for path in files():
            for node in ast.walk(ast.parse(read(path))):
                if isinstance(node, ast.Name) and hasattr(builtins, node.id):
                    self.assertIn(node.id, BUILTINS, path)

    def test_no_percent_sign_in_a_text(self):
        for path in files():
            for node in ast.walk(ast.parse(read(path))):
                if isinstance(node, ast.Constant) and isinstance(node.value, str):
                    self.assertNotIn("%", node.value, path)

    def test_the_interface_is_defined_in_its_files(self):
        for name, words in INTERFACE.items():
            tree = ast.parse(read(os.path.join(PACKAGE, name + ".py")))
            defined = [node.name for node in tree.body if isinstance(node, (ast.FunctionDef, ast.ClassDef))]
            for word in words.split():
                self.assertIn(word, defined)

    def test_listed_methods_are_defined_in_their_class(self):
        trees = [ast.parse(read(path)) for path in files()]
        classes = [node for tree in trees for node in tree.body if isinstance(node, ast.ClassDef)]
        bodies = {node.name: [row.name for row in node.body if isinstance(row, ast.FunctionDef)] for node in classes}
        for name, words in METHODS.items():
            self.assertEqual(len(bodies[name]), len(set(bodies[name])))
            for word in words.split():
                self.assertIn(word, bodies[name])

    def test_no_name_is_a_method_and_an_attribute(self):
        for path in files():
            for node in ast.parse(read(path)).body:
                if isinstance(node, ast.ClassDef):
                    methods = {row.name for row in node.body if isinstance(row, ast.FunctionDef)}
                    kept = {row.attr for row in ast.walk(node) if isinstance(row, ast.Attribute)
                            and isinstance(row.ctx, ast.Store)}
                    self.assertEqual(methods & kept, set(), node.name)

    def test_no_local_name_hides_an_import_or_a_class(self):
        for path in files():
            tree = ast.parse(read(path))
            barred = {node.name for node in tree.body if isinstance(node, ast.ClassDef)}
            for node in tree.body:
                if isinstance(node, ast.ImportFrom):
                    barred |= {name.name for name in node.names}
            for node in ast.walk(tree):
                if isinstance(node, ast.arg):
                    self.assertNotIn(node.arg, barred, path)
                if isinstance(node, ast.Name) and isinstance(node.ctx, ast.Store):
                    self.assertNotIn(node.id, barred, path)

    def test_no_two_files_import_from_each_other(self):
        reached = {}
        for path in files():
            rows = [node.module for node in ast.parse(read(path)).body if isinstance(node, ast.ImportFrom)]
            name = os.path.basename(path)[:-3]
            reached[name] = {row.split(".")[1] for row in rows if row.startswith("heardhouse.")}
        for _ in reached:
            for name in reached:
                reached[name] = reached[name].union(*[reached[other] for other in reached[name]])
        for name, others in reached.items():
            self.assertNotIn(name, others)


if __name__ == "__main__":
    unittest.main()
