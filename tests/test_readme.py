import os
import unittest

README = os.path.join(os.path.dirname(os.path.dirname(os.path.abspath(__file__))), "README.md")


class Readme(unittest.TestCase):
    def test_its_example_holds(self):
        with open(README, encoding="utf-8") as text:
            code = text.read().split("```python\n")[1].split("```")[0]
        names = {}
        exec(code, names)
        case, papers = names["case"], names["papers"]
        self.assertEqual(names["next_open"]((4,), 4), 7)
        self.assertEqual(names["end"]((), 0, (5, "open")), 7)
        self.assertEqual(names["docket"](case, papers), [papers[1], papers[0], papers[2]])
        self.assertEqual(names["taken"](case, papers), [(1, "taken"), (2, "taken"), (3, "taken")])


if __name__ == "__main__":
    unittest.main()
