"""Points 1 to 4: what holds of all that the program tells."""

import copy
import importlib
import inspect
import itertools
import random
import unittest

from heardhouse.court import Court
from heardhouse.costs import balance, dues, late
from heardhouse.papers import docket, taken
from heardhouse.seals import view
from heardhouse.stands import standing
from heardhouse.texts import read_case, read_docket, show_case, show_docket
from tests.chance import Chance
from tests.house import CASE, LONG, appeal, claim, decision, evidence, motion, ruling, strike

SIGNATURES = {
    "days": (
        "is_calendar(thing)", "is_day(thing)", "is_term(thing)", "is_open(calendar, day)",
        "within(calendar, day, term, other)", "next_open(calendar, day)", "end(calendar, day, term)",
        "last_open(calendar, day)",
    ),
    "papers": (
        "is_case(thing)", "is_paper(thing)", "filed(case, paper)", "docket(case, papers)", "taken(case, papers)",
        "taking(case, ahead, paper)",
    ),
    "stands": (
        "standing(case, papers, day)", "leans(case, papers, day)", "falls(case, papers, number, day)",
        "settled(case, papers, day)", "reopened(case, papers, day)",
    ),
    "seals": ("sees(case, papers, person, number, place, day)", "view(case, papers, person, day)"),
    "hearings": (
        "lay(plan, matters)", "lay_more(plan, matters, laying)", "clash(plan, matters)",
        "is_laying(plan, matters, thing)",
    ),
    "costs": (
        "is_award(case, thing)", "is_payment(case, thing)", "parted(coins, shares)",
        "dues(case, papers, awards, payments, day)", "late(case, papers, awards, payments, day)",
        "balance(case, papers, awards, payments, day)",
    ),
    "texts": (
        "show_paper(paper)", "show_case(case)", "read_paper(text)", "read_case(text)", "show_docket(case, papers)",
        "read_docket(texts)",
    ),
}
METHODS = (
    "file(self, paper)", "looked(self)", "docket(self)", "taken(self)", "standing(self, day)", "settled(self, day)",
    "reopened(self, day)", "view(self, person, day)", "news(self, person, since, day)", "dues(self, day)",
    "late(self, day)", "balance(self, day)", "sees(self, person, number, place, day)",
    "award(self, ruling, payee, coins, shares)", "pay(self, day, payer, payee, coins)",
)

PAPERS = [
    claim(1), motion(2, 1), evidence(3, 1, words=(("a", "bench"), ("b", "open"))), ruling(4, 1, ((3, 0), (3, 1))),
    ruling(5, 2, ((4, 0),)), appeal(6, 4, day=2), decision(7, 6, "back", day=3), strike(8, 7, day=4), claim(9, by="zed"),
]
AWARDS = [(4, "ann", 9, (("ben", 1), ("cid", 1))), (5, "cid", 5, (("ben", 1),))]
PAYMENTS = [(0, "ben", "ann", 20), (2, "dot", "cid", 1)]
PLAN = ((), 1, 4)
MATTERS = [("one", ("ann",), 3, 0, 3), ("two", ("ann", "ben"), 2, 0, 3), ("three", ("cid",), 1, 1, 1)]
SHARES = (("ann", 1), ("ben", 2))

# What each question that tells a list is handed.
GIVEN = {
    "papers.docket": (CASE, PAPERS), "papers.taken": (CASE, PAPERS), "stands.standing": (CASE, PAPERS, 4),
    "stands.leans": (CASE, PAPERS, 4), "stands.falls": (CASE, PAPERS, 3, 4), "stands.settled": (CASE, PAPERS, 4),
    "stands.reopened": (CASE, PAPERS, 3), "seals.view": (CASE, PAPERS, "ann", 4), "hearings.lay": (PLAN, MATTERS),
    "hearings.lay_more": (PLAN, MATTERS, [("one", 1, 0, 0)]), "hearings.clash": ((PLAN[0], 1, 2), MATTERS),
    "costs.parted": (10, SHARES), "costs.dues": (CASE, PAPERS, AWARDS, PAYMENTS, 4),
    "costs.late": (CASE, PAPERS, AWARDS, PAYMENTS, 400), "costs.balance": (CASE, PAPERS, AWARDS, PAYMENTS, 4),
    "texts.show_docket": (CASE, PAPERS), "texts.read_docket": (["#1 0 ann claim", "#1 0 ann claim"],),
}
# What each question that tells no list is handed.
OTHERS = {
    "papers.taking": (CASE, [(claim(1), "taken")], motion(2, 1)), "seals.sees": (CASE, PAPERS, "ann", 3, 0, 4),
    "hearings.is_laying": (PLAN, MATTERS, [("one", 1, 0, 0)]), "costs.is_award": (CASE, AWARDS),
    "costs.is_payment": (CASE, PAYMENTS), "papers.is_paper": (PAPERS,), "papers.is_case": (PAPERS,),
    "days.is_calendar": ([1],),
}


def function(name):
    file, word = name.split(".")
    return getattr(importlib.import_module("heardhouse." + file), word)


def lists_in(thing):
    """All lists and dicts within a thing, each as often as it is there."""
    found = [thing] if isinstance(thing, (list, dict)) else []
    if isinstance(thing, (list, tuple)):
        for part in thing:
            found += lists_in(part)
    return found


class Interface(unittest.TestCase):
    def shown(self, asked):
        return f"{asked.__name__}({', '.join(inspect.signature(asked).parameters)})"

    def test_functions(self):
        for file, rows in SIGNATURES.items():
            for row in rows:
                asked = function(f"{file}.{row.partition('(')[0]}")
                self.assertEqual(self.shown(asked), row)
                self.assertEqual(asked.__module__, "heardhouse." + file)

    def test_the_court(self):
        self.assertEqual(list(inspect.signature(Court).parameters), ["case"])
        self.assertEqual(Court.__module__, "heardhouse.court")
        for row in METHODS:
            name = row.partition("(")[0]
            self.assertIn(name, vars(Court))
            self.assertEqual(self.shown(vars(Court)[name]), row)

    def test_no_argument_may_be_left_out(self):
        for file, rows in SIGNATURES.items():
            for row in rows:
                with self.assertRaises(TypeError):
                    function(f"{file}.{row.partition('(')[0]}")()


class Keeping(unittest.TestCase):
    def test_each_list_is_told(self):
        for name, given in GIVEN.items():
            told = function(name)(*given)
            self.assertIs(type(told), list, name)
            self.assertGreater(len(told), 0, name)

    def test_what_is_handed_in_stays(self):
        for name, given in list(GIVEN.items()) + list(OTHERS.items()):
            kept = copy.deepcopy(given)
            told = function(name)(*given)
            self.assertEqual(given, kept, name)
            for one in lists_in(told):
                for other in lists_in(given):
                    self.assertIsNot(one, other, name)

    def test_what_is_told_is_the_askers_own(self):
        for name, given in GIVEN.items():
            told = function(name)(*given)
            kept = copy.deepcopy(told)
            again = function(name)(*given)
            found = lists_in(told) + lists_in(again)
            self.assertEqual(len({id(one) for one in found}), len(found), name)
            for one in lists_in(again):
                one.append("x")
                one.reverse()
            self.assertEqual(told, kept, name)
            self.assertEqual(function(name)(*given), kept, name)

    def test_a_list_that_is_changed_later_changes_nothing_told(self):
        for name, given in GIVEN.items():
            own = copy.deepcopy(given)
            told = function(name)(*own)
            kept = copy.deepcopy(told)
            for one in lists_in(own):
                one.clear()
            self.assertEqual(told, kept, name)

    def test_the_same_question_twice(self):
        for name, given in list(GIVEN.items()) + list(OTHERS.items()):
            self.assertEqual(function(name)(*given), function(name)(*copy.deepcopy(given)), name)


class Whole(unittest.TestCase):
    def test_in_whatever_order_papers_come(self):
        chance = random.Random(4)
        for seed in range(20):
            papers = Chance(seed).papers(16)
            awards = [(row[0], "ann", 10, (("ben", 1), ("dot", 2))) for row in papers if row[3] == "ruling"]
            told = self.all_of(papers, awards)
            for _ in range(4):
                chance.shuffle(papers)
                self.assertEqual(self.all_of(papers, awards), told)
                self.assertEqual(self.all_by_court(papers, awards, chance), told)

    def all_of(self, papers, awards):
        return [
            docket(CASE, papers), taken(CASE, papers), standing(CASE, papers, 20), view(CASE, papers, "ben", 20),
            dues(CASE, papers, awards, [], 20), late(CASE, papers, awards, [], 20), balance(CASE, papers, awards, [], 20),
        ]

    def all_by_court(self, papers, awards, chance):
        court = Court(CASE)
        for row in papers:
            court.file(row)
            if chance.random() < 0.3:
                court.standing(chance.randint(0, 30))
        for row in awards:
            court.award(*row)
        return [
            court.docket(), court.taken(), court.standing(20), court.view("ben", 20), court.dues(20), court.late(20),
            court.balance(20),
        ]

    def test_standing_rulings_rest_on_what_stands_ahead_of_them(self):
        many = 0
        for seed in range(60):
            papers = Chance(seed).papers(30)
            places = {row[0]: place for place, row in enumerate(docket(LONG, papers))}
            words = dict(taken(LONG, papers))
            for day in (5, 15, 60):
                stand = standing(LONG, papers, day)
                for row in papers:
                    if row[0] in stand and row[3] == "ruling":
                        self.assertGreater(len(row[6]), 0)
                        for rest, _ in row[6]:
                            many += 1
                            self.assertIn(rest, stand)
                            self.assertEqual(words[rest], "taken")
                            self.assertLess(places[rest], places[row[0]])
        self.assertGreater(many, 100)

    def test_what_was_paid_by_a_ruling_that_falls_is_owed_back(self):
        papers = [claim(1), ruling(2, 1, ((1, 0),)), appeal(3, 2)]
        court = Court(LONG)
        for row in papers:
            court.file(row)
        court.award(2, "ann", 7, (("ben", 1), ("dot", 1)))
        for payer, coins in (("ben", 4), ("dot", 3)):
            court.pay(1, payer, "ann", coins)
        self.assertEqual(court.dues(1), [])
        court.file(decision(4, 3, "undone", day=2))
        self.assertEqual(court.dues(1), [])
        self.assertEqual(court.dues(2), [("ann", "ben", 4), ("ann", "dot", 3)])
        self.assertEqual(court.balance(2), [("ann", -7), ("ben", 4), ("cid", 0), ("dot", 3)])

    def test_all_is_written_and_read_back(self):
        for seed in range(20):
            papers = Chance(seed).papers(30)
            texts = show_docket(CASE, papers)
            case, rows = read_case(show_case(CASE)), read_docket(texts)
            self.assertEqual(case, CASE)
            for person, day in itertools.product(("ann", "public", "jon"), (3, 30)):
                self.assertEqual(view(case, rows, person, day), view(CASE, papers, person, day))
            self.assertEqual(show_docket(case, rows[::-1]), texts)


if __name__ == "__main__":
    unittest.main()
