import os
import unittest

README = os.path.join(os.path.dirname(os.path.dirname(os.path.abspath(__file__))), "README.md")


class Readme(unittest.TestCase):
    def test_its_example_holds(self):
        with open(README, encoding="utf-8") as text:
            code = text.read().split("```python\n")[1].split("```")[0]
        names = {}
        exec(code, names)
        case, papers = names["case"], names["papers"]
        self.assertEqual(names["next_open"]((4,), 4), 7)
        self.assertEqual(names["end"]((), 0, (5, "open")), 7)
        self.assertEqual(names["docket"](case, papers), [papers[1], papers[0], papers[2]])
        self.assertEqual(names["taken"](case, papers), [(1, "taken"), (2, "taken"), (3, "taken")])
        self.assertEqual(names["standing"](case, papers, 7), [1, 2, 3])
        self.assertEqual(names["falls"](case, papers, 2, 7), [3])
        self.assertEqual(names["settled"](case, papers, 7), [(1, 3)])
        self.assertIs(names["sees"](case, papers, "public", 3, 0, 7), False)
        told = (3, 7, "jon", "ruling", 1, "taken", ["it is"])
        self.assertEqual(names["view"](case, papers, "ann", 7)[2], told)
        plan, matters = names["plan"], names["matters"]
        self.assertEqual(names["lay"](plan, matters), [("appeal", 7, 0, 0), ("motion", 3, 0, 0)])
        self.assertIsNone(names["lay_more"](plan, matters, [("appeal", 3, 0, 0)]))
        self.assertEqual(names["clash"]((names["calendar"], 1, 2), matters), ["appeal"])


if __name__ == "__main__":
    unittest.main()
