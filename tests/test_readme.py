import os
import unittest

README = os.path.join(os.path.dirname(os.path.dirname(os.path.abspath(__file__))), "README.md")


class Readme(unittest.TestCase):
    def test_its_example_holds(self):
        with open(README, encoding="utf-8") as text:
            code = text.read().split("```python\n")[1].split("```")[0]
        names = {}
        exec(code, names)
        case, papers = names["case"], names["papers"]
        self.assertEqual(names["next_open"]((4,), 4), 7)
        self.assertEqual(names["end"]((), 0, (5, "open")), 7)
        self.assertEqual(names["docket"](case, papers), [papers[1], papers[0], papers[2]])
        self.assertEqual(names["taken"](case, papers), [(1, "taken"), (2, "taken"), (3, "taken")])
        self.assertEqual(names["standing"](case, papers, 7), [1, 2, 3])
        self.assertEqual(names["falls"](case, papers, 2, 7), [3])
        self.assertEqual(names["settled"](case, papers, 7), [(1, 3)])
        self.assertIs(names["sees"](case, papers, "public", 3, 0, 7), False)
        told = (3, 7, "jon", "ruling", 1, "taken", ["it is"])
        self.assertEqual(names["view"](case, papers, "ann", 7)[2], told)
        plan, matters = names["plan"], names["matters"]
        self.assertEqual(names["lay"](plan, matters), [("appeal", 7, 0, 0), ("motion", 3, 0, 0)])
        self.assertIsNone(names["lay_more"](plan, matters, [("appeal", 3, 0, 0)]))
        self.assertEqual(names["clash"]((names["calendar"], 1, 2), matters), ["appeal"])
        self.costs_and_texts(names, case, papers)

    def costs_and_texts(self, names, case, papers):
        self.assertEqual(names["parted"](10, (("ann", 1), ("ben", 2))), [("ann", 3), ("ben", 7)])
        awards, payments = [(3, "ann", 10, (("ben", 1),))], [(8, "ben", "ann", 4)]
        self.assertEqual(names["dues"](case, papers, awards, payments, 8), [("ben", "ann", 6)])
        court = names["court"]
        self.assertEqual(court.looked(), 3)
        self.assertEqual(court.late(9), [])
        self.assertEqual(court.late(10), [("ben", "ann", 6)])
        self.assertEqual([row[0] for row in court.news("public", 0, 7)], [2, 3])
        other = names["Court"](case)
        self.assertEqual([other.file(paper) for paper in papers], [0, 0, 2])
        self.assertEqual(names["show_case"](case), "4;ann=asker,ben=answerer;jon;10 days,3 open,5 days,2 open")
        texts = names["show_docket"](case, papers)
        self.assertEqual(texts[2], '#3 4 jon ruling >1 open"it is" [1.0,2.0]')
        self.assertEqual(names["read_docket"](texts), names["docket"](case, papers))
        told = names["read_paper"]('#1 0 ann claim open"it is ""mine"""')
        self.assertEqual(told[5], (('it is "mine"', "open"),))


if __name__ == "__main__":
    unittest.main()
