"""Those rules of the language that can be seen in a file's text or tree at a glance."""

import ast
import builtins
import os
import unittest

ROOT = os.path.dirname(os.path.dirname(os.path.abspath(__file__)))
PACKAGE = os.path.join(ROOT, "heardhouse")
BUILTINS = (
    "len range enumerate zip min max sum abs sorted reversed int str bool list tuple dict set isinstance ord "
    "repr any all divmod ValueError KeyError IndexError TypeError super"
).split()
# What may be imported from beside the package.
LIBRARY = {
    "heapq": "heappush heappop heapify heapreplace heappushpop", "math": "gcd lcm isqrt comb perm factorial",
    "itertools": "product combinations permutations",
}
INTERFACE = {
    "errors": "HouseError NoCalendar NoDay NoTerm NoCase NoPaper NoPerson NoWord NoNumber NoPlan NoMatter "
              "NoLaying NoAward NoPayment Twice NoText",
    "days": "is_calendar is_day is_term is_open within next_open end last_open",
    "papers": "is_case is_paper filed docket taken taking",
    "stands": "standing leans falls settled reopened",
    "seals": "sees view",
    "hearings": "lay lay_more clash is_laying",
}


def files():
    names = sorted(name for name in os.listdir(PACKAGE) if name != "__pycache__")
    return [os.path.join(PACKAGE, name) for name in names]


def read(path):
    with open(path, encoding="utf-8") as text:
        return text.read()


class Language(unittest.TestCase):
    def test_only_plain_files(self):
        for path in files():
            self.assertRegex(os.path.basename(path), r"^[a-z_]+\.py$")

    def test_signs_and_sizes(self):
        for path in files():
            lines = read(path).split("\n")
            self.assertLess(len(lines), 400, path)
            for line in lines:
                self.assertLessEqual(len(line), 120, path)
                self.assertTrue(all(" " <= sign <= "~" for sign in line), path)

    def test_functions_are_small_and_undecorated(self):
        for path in files():
            for node in ast.walk(ast.parse(read(path))):
                if isinstance(node, (ast.FunctionDef, ast.ClassDef)):
                    self.assertEqual(node.decorator_list, [])
                if isinstance(node, ast.FunctionDef):
                    self.assertLessEqual(node.end_lineno - node.lineno + 1, 40, node.name)

    def test_imports_come_from_the_package(self):
        for path in files():
            for node in ast.walk(ast.parse(read(path))):
                self.assertNotIsInstance(node, ast.Import)
                if isinstance(node, ast.ImportFrom):
                    self.assertEqual(node.level, 0)
                    if not node.module.startswith("heardhouse."):
                        for name in node.names:
                            self.assertIn(name.name, LIBRARY.get(node.module, "").split())
                            self.assertIsNone(name.asname)

    def test_only_named_builtins(self):
        for path in files():
            for node in ast.walk(ast.parse(read(path))):
                if isinstance(node, ast.Name) and hasattr(builtins, node.id):
                    self.assertIn(node.id, BUILTINS, path)

    def test_no_percent_sign_in_a_text(self):
        for path in files():
            for node in ast.walk(ast.parse(read(path))):
                if isinstance(node, ast.Constant) and isinstance(node.value, str):
                    self.assertNotIn("%", node.value, path)

    def test_the_interface_is_defined_in_its_files(self):
        for name, words in INTERFACE.items():
            tree = ast.parse(read(os.path.join(PACKAGE, name + ".py")))
            defined = [node.name for node in tree.body if isinstance(node, (ast.FunctionDef, ast.ClassDef))]
            for word in words.split():
                self.assertIn(word, defined)


if __name__ == "__main__":
    unittest.main()
