import itertools
import unittest

from heardhouse.days import end
from heardhouse.errors import NoCase, NoPaper
from heardhouse.papers import docket, filed, taken, taking
from tests.asking import NO_CASES, NO_PAPERS, Asking
from tests.house import ANYTHING, CASE, LONG, answer, claim, decision, motion, paper, ruling, strike


class Filed(unittest.TestCase):
    def test_the_first_open_day_from_its_day_on(self):
        told = [filed(CASE, claim(1, day=day)) for day in range(17)]
        self.assertEqual(told, [0, 1, 2, 3, 4, 7, 7, 7, 8, 11, 11, 11, 15, 15, 15, 15, 16])

    def test_of_a_paper_that_is_refused(self):
        self.assertEqual(filed(CASE, paper(1, "nobody", "ruling", 7, day=5)), 7)

    def test_great_days(self):
        self.assertEqual(filed(LONG, claim(1, day=999999999999)), 999999999999 + (-999999999999) % 7)


class Docket(unittest.TestCase):
    def test_none(self):
        self.assertEqual(docket(CASE, []), [])
        self.assertEqual(taken(CASE, []), [])

    def test_by_filed_days_then_by_numbers(self):
        papers = [claim(1, day=7), claim(2, day=5), claim(3, day=4), claim(4, day=6), claim(5, day=0)]
        self.assertEqual([row[0] for row in docket(CASE, papers)], [5, 3, 1, 2, 4])

    def test_the_day_itself_does_not_order(self):
        papers = [claim(2, day=9), claim(1, day=11), claim(3, day=10)]
        self.assertEqual(docket(CASE, papers), [papers[1], papers[0], papers[2]])

    def test_in_whatever_order_they_came(self):
        papers = [claim(1, day=12), claim(2, day=14), claim(3), motion(4, 3), claim(5, day=30)]
        for row in itertools.permutations(papers):
            self.assertEqual([one[0] for one in docket(CASE, list(row))], [3, 4, 1, 2, 5])

    def test_numbers_order_as_numbers(self):
        papers = [claim(10), claim(9), claim(100), claim(1)]
        self.assertEqual([row[0] for row in docket(CASE, papers)], [1, 9, 10, 100])

    def test_of_one_number_the_first_counts(self):
        one, two = claim(1, day=20), claim(1, by="cid", day=0)
        self.assertEqual(docket(CASE, [one, two]), [one])
        self.assertEqual(docket(CASE, [two, one]), [two])
        self.assertEqual(docket(CASE, [one, claim(2, day=5), two, one]), [claim(2, day=5), one])
        self.assertEqual(taken(CASE, [one, two, motion(2, 1, day=10)]), [(2, "about"), (1, "taken")])

    def test_of_one_number_also_a_refused_first_one_counts(self):
        self.assertEqual(taken(CASE, [claim(1, by="ben"), claim(1, by="ann")]), [(1, "maker")])

    def test_refused_papers_are_in_the_docket(self):
        row = paper(1, "nobody", "ruling", 7)
        self.assertEqual(docket(CASE, [row]), [row])


class Taken(unittest.TestCase):
    def test_numbers_and_words_in_the_dockets_order(self):
        papers = [motion(3, 2, day=2), claim(2, day=1), claim(1, by="ben", day=3), answer(4, 2, day=1)]
        self.assertEqual(taken(CASE, papers), [(2, "taken"), (4, "taken"), (3, "taken"), (1, "maker")])

    def test_of_one_day_only_lesser_numbers_are_ahead(self):
        self.assertEqual(taken(CASE, [claim(1), motion(2, 1)]), [(1, "taken"), (2, "taken")])
        self.assertEqual(taken(CASE, [claim(2), motion(1, 2)]), [(1, "about"), (2, "taken")])
        self.assertEqual(taken(CASE, [claim(2), motion(1, 2, day=1)]), [(2, "taken"), (1, "taken")])

    def test_in_whatever_order_they_came(self):
        papers = [claim(1), motion(2, 1, day=1), ruling(3, 2, ((1, 0),), day=2), strike(4, 1, day=3), motion(5, 4)]
        told = taken(CASE, papers)
        for row in itertools.permutations(papers):
            self.assertEqual(taken(CASE, list(row)), told)

    def test_taking_goes_by_the_words_that_it_is_told(self):
        self.assertEqual(taking(CASE, [(claim(1), "taken")], motion(2, 1)), "taken")
        self.assertEqual(taking(CASE, [(claim(1), "maker")], motion(2, 1)), "about")
        self.assertEqual(taking(CASE, [], motion(2, 1)), "about")
        self.assertEqual(taking(CASE, [], claim(1)), "taken")

    def test_taking_is_as_taken_tells(self):
        papers = [claim(1), answer(2, 1), answer(3, 1), motion(4, 9), strike(5, 1), ruling(6, 1, ((1, 0),))]
        ahead = []
        for row in docket(CASE, papers):
            ahead.append((row, taking(CASE, ahead, row)))
        self.assertEqual([(row[0], word) for row, word in ahead], taken(CASE, papers))


class Refusals(Asking):
    def test_no_case(self):
        for thing in NO_CASES:
            self.refused(NoCase, filed, thing, claim(1))
            self.refused(NoCase, docket, thing, [])
            self.refused(NoCase, taken, thing, [claim(1)])

    def test_no_paper(self):
        for thing in ANYTHING + ((), list(claim(1)), claim(0), [claim(1)]):
            self.refused(NoPaper, filed, CASE, thing)

    def test_no_papers(self):
        for thing in NO_PAPERS:
            self.refused(NoPaper, docket, CASE, thing)
            self.refused(NoPaper, taken, CASE, thing)

    def test_no_case_is_first(self):
        self.refused(NoCase, filed, None, None)
        self.refused(NoCase, docket, None, None)
        self.refused(NoCase, taken, CASE[:3], [None])


class Keeping(unittest.TestCase):
    def test_names_of_arguments(self):
        row = motion(2, 1)
        self.assertEqual(filed(paper=row, case=CASE), 0)
        self.assertEqual(docket(papers=[row], case=CASE), [row])
        self.assertEqual(taken(papers=[row], case=CASE), [(2, "about")])
        self.assertEqual(taking(paper=row, ahead=[(claim(1), "taken")], case=CASE), "taken")

    def test_what_is_handed_in_stays(self):
        papers = [motion(2, 1, day=3), claim(1), claim(1), strike(3, 1), claim(4, by="ben")]
        ahead = [(claim(1), "taken"), (strike(3, 1), "taken")]
        kept, kept_ahead = list(papers), list(ahead)
        docket(CASE, papers)
        taken(CASE, papers)
        taking(CASE, ahead, ruling(5, 1, ((1, 0),)))
        self.assertEqual(papers, kept)
        self.assertEqual(ahead, kept_ahead)

    def test_what_is_told_is_the_askers_own(self):
        papers = [claim(1), motion(2, 1)]
        for ask in (docket, taken):
            one, two = ask(CASE, papers), ask(CASE, papers)
            self.assertIsNot(one, two)
            self.assertIsNot(one, papers)
            one.clear()
            self.assertEqual(ask(CASE, papers), two)
        self.assertEqual(papers, [claim(1), motion(2, 1)])

    def test_a_list_that_is_changed_later_changes_nothing_told(self):
        papers = [claim(1), motion(2, 1)]
        told, words = docket(CASE, papers), taken(CASE, papers)
        papers.clear()
        self.assertEqual(told, [claim(1), motion(2, 1)])
        self.assertEqual(words, [(1, "taken"), (2, "taken")])
        self.assertEqual(taken(CASE, papers), [])

    def test_kinds_of_what_is_told(self):
        told = taken(CASE, [claim(1), decision(2, 1)])
        self.assertIs(type(told), list)
        for row in told:
            self.assertIs(type(row), tuple)
        self.assertIs(type(docket(CASE, [claim(1)])), list)
        self.assertEqual(end(CASE[0], filed(CASE, claim(1, day=5)), CASE[3][1]), 15)


if __name__ == "__main__":
    unittest.main()
