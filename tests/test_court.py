"""Points 23 to 25: the court, what it tells of what it has, what is new, and how much it reckoned."""

import itertools
import random
import unittest

from heardhouse import costs, papers as papers_file, seals, stands
from heardhouse.court import Court
from heardhouse.errors import NoAward, NoCase, NoDay, NoPaper, NoPayment, NoPerson, NoWord, Twice
from tests import plain
from tests.asking import NO_CASES, NO_DAYS, Asking, Soon, steps_of
from tests.chance import Chance
from tests.house import (
    ANYTHING, CASE, LONG, Alike, Angry, answer, appeal, claim, decision, evidence, motion, paper, ruling, strike,
    unseal,
)

PERSONS = ("ann", "ben", "cid", "dot", "jon", "kay", "public")
BEN = (("ben", 1),)
BASE = [claim(1), evidence(2, 1), ruling(3, 1, ((2, 0),)), appeal(4, 3)]
NO_PERSONS = ANYTHING + ("zed", "Ann", "", "bench", "parties", "open", ("ann",), b"ann", 1, ["ann"])
NO_PLAIN_PAPERS = ANYTHING + ((), list(claim(1)), claim(0), claim(True), [claim(1)], claim(1, day=-1), claim(1)[:6])


def court_of(case, papers, awards=(), payments=()):
    court = Court(case)
    for row in papers:
        court.file(row)
    for row in awards:
        court.award(*row)
    for row in payments:
        court.pay(*row)
    return court


def questions(day=30, person="ann", since=2):
    """All questions that hang on takings, as names with what is handed in."""
    rows = [(name, (day,)) for name in ("standing", "settled", "reopened", "dues", "late", "balance")]
    return rows + [("taken", ()), ("view", (person, day)), ("news", (person, since, day)), ("sees", (person, 1, 0, day))]


def ask(court, question):
    name, given = question
    return getattr(court, name)(*given)


class Filing(Asking):
    def test_places_are_those_in_the_docket_now(self):
        court = Court(LONG)
        told = [court.file(row) for row in (claim(5, day=3), claim(2, day=7), claim(9), claim(7, day=3), claim(4, day=3))]
        self.assertEqual(told, [0, 1, 0, 2, 1])
        self.assertEqual([row[0] for row in court.docket()], [9, 4, 5, 7, 2])

    def test_each_place_is_where_the_docket_has_it(self):
        for seed in range(30):
            court = Court(CASE)
            for row in Chance(seed).papers(20):
                place = court.file(row)
                self.assertIs(type(place), int)
                self.assertEqual(court.docket()[place], row)

    def test_by_filed_days(self):
        # Days 5 and 6 are closed, so all of these are filed on day 7.
        court = Court(CASE)
        told = [court.file(row) for row in (claim(3, day=7), claim(2, day=6), claim(1, day=5), claim(4, day=5))]
        self.assertEqual(told, [0, 0, 0, 3])

    def test_the_place_hangs_on_no_taking(self):
        court = court_of(LONG, [claim(1, by="ben"), motion(3, 9)])
        self.assertEqual(court.file(strike(2, 7, by="zed")), 1)

    def test_a_number_that_is_there(self):
        court = court_of(LONG, BASE)
        for row in (claim(1), claim(1, day=9), motion(2, 1), BASE[3]):
            with self.assertRaises(Twice) as caught:
                court.file(row)
            self.assertEqual(caught.exception.number, row[0])
            self.refused(Twice, court.file, row)
        self.assertEqual(court.docket(), BASE)

    def test_also_a_refused_paper_has_its_number(self):
        court = court_of(LONG, [claim(1, by="ben")])
        self.refused(Twice, court.file, claim(1))
        self.assertEqual(court.taken(), [(1, "maker")])

    def test_a_number_that_came_with_a_refused_filing_is_not_there(self):
        court = Court(LONG)
        self.refused(NoPaper, court.file, claim(7, day=-1))
        self.refused(NoPaper, court.file, motion(7, 7))
        self.assertEqual(court.file(claim(7)), 0)

    def test_no_paper(self):
        court = court_of(LONG, BASE)
        for thing in NO_PLAIN_PAPERS:
            self.refused(NoPaper, court.file, thing)
        self.refused(NoPaper, court.file, list(claim(1)))
        self.assertEqual(court.docket(), BASE)
        self.assertEqual(court.looked(), 0)

    def test_no_case(self):
        for thing in NO_CASES:
            self.refused(NoCase, Court, thing)

    def test_names_of_arguments(self):
        court = Court(case=LONG)
        self.assertEqual(court.file(paper=claim(1)), 0)
        self.assertEqual(court.standing(day=0), [1])
        self.assertEqual(court.settled(day=0), [(1, None)])
        self.assertEqual(court.reopened(day=0), [])
        self.assertEqual(court.view(day=0, person="ann"), court.view("ann", 0))
        self.assertEqual(court.news(day=0, since=0, person="ann"), [])
        self.assertIs(court.sees(day=0, place=0, number=1, person="ann"), True)
        self.assertIsNone(court.award(shares=BEN, coins=7, payee="ann", ruling=1))
        self.assertIsNone(court.pay(coins=4, payee="ann", payer="ben", day=0))
        self.assertEqual(court.dues(day=0), [("ann", "ben", 4)])
        self.assertEqual(court.late(day=0), [])
        self.assertEqual(court.balance(day=0)[0], ("ann", -4))


class Telling(Asking):
    def test_an_empty_court(self):
        court = Court(LONG)
        for rows in (court.docket(), court.taken(), court.standing(0), court.settled(0), court.reopened(0)):
            self.assertEqual(rows, [])
        for rows in (court.view("public", 0), court.news("ann", 0, 9), court.dues(0), court.late(0)):
            self.assertEqual(rows, [])
        self.assertEqual(court.balance(0), [("ann", 0), ("ben", 0), ("cid", 0), ("dot", 0)])
        self.refused(NoWord, court.sees, "ann", 1, 0, 0)
        self.assertEqual(court.looked(), 0)

    def test_papers_behind_a_day_count_nothing_then(self):
        court = court_of(LONG, BASE + [decision(5, 4, "undone", day=3)])
        self.assertEqual(court.standing(2), [1, 2, 3, 4])
        self.assertEqual(court.standing(3), [1, 2, 4, 5])
        self.assertEqual(court.settled(2), [(1, 3)])
        self.assertEqual(court.reopened(2), [])
        self.assertEqual(court.reopened(3), [1])
        self.assertEqual(len(court.view("ann", 2)), 4)

    def test_a_paper_of_an_earlier_day_changes_what_is_taken(self):
        court = court_of(LONG, [motion(2, 1, day=3)])
        self.assertEqual(court.taken(), [(2, "about")])
        self.assertEqual(court.standing(9), [])
        self.assertEqual(court.file(claim(1)), 0)
        self.assertEqual(court.taken(), [(1, "taken"), (2, "taken")])
        self.assertEqual(court.standing(9), [1, 2])
        court.file(strike(3, 1, day=2))
        self.assertEqual(court.standing(9), [2, 3])
        self.assertEqual(court.view("jon", 9)[2][5], "taken")

    def every(self, court, case, papers, awards, payments, person, since, day):
        """The court tells what the plain functions tell of the same."""
        self.assertEqual(court.docket(), papers_file.docket(case, papers))
        self.assertEqual(court.taken(), papers_file.taken(case, papers))
        for one in (stands.standing, stands.settled, stands.reopened):
            self.assertEqual(getattr(court, one.__name__)(day), one(case, papers, day))
        for one in (costs.dues, costs.late, costs.balance):
            told = getattr(court, one.__name__)(day)
            self.assertEqual(told, one(case, papers, awards, payments, day))
            self.assertEqual(told, getattr(plain, one.__name__)(case, papers, awards, payments, day))
        self.assertEqual(court.view(person, day), seals.view(case, papers, person, day))
        self.assertEqual(court.news(person, since, day), plain.news(case, papers, person, since, day))
        for number, _, _, _, _, _, texts in court.view(person, day):
            for place, text in enumerate(texts):
                told = court.sees(person, number, place, day)
                self.assertIs(told, text is not None)
                self.assertIs(told, seals.sees(case, papers, person, number, place, day))

    def test_as_the_plain_functions_tell(self):
        chance = random.Random(23)
        for seed in range(60):
            case = (CASE, LONG)[seed % 2]
            court, kept, awards, payments = Court(case), [], [], []
            for row in Chance(seed).papers(6 + seed % 14):
                court.file(row)
                kept.append(row)
                if chance.random() < 0.4:
                    awards.append((row[0], "ann", chance.randint(0, 99), (("ben", 2), ("cid", 1))))
                    self.assertIsNone(court.award(*awards[-1]))
                    payments.append((chance.randint(0, 12), *chance.sample(("ann", "ben", "cid"), 2), 9))
                    self.assertIsNone(court.pay(*payments[-1]))
                if chance.random() < 0.4:
                    person, since, day = chance.choice(PERSONS), chance.randint(0, 20), chance.randint(0, 20)
                    self.every(court, case, kept, awards, payments, person, since, day)
            self.every(court, case, kept, awards, payments, "public", 3, 40)

    def test_in_whatever_order_they_came(self):
        papers = [
            claim(1), evidence(2, 1), ruling(3, 1, ((2, 0),), day=1), appeal(4, 3, day=2),
            decision(5, 4, "back", day=3), strike(6, 5, day=4),
        ]
        told = None
        for rows in itertools.permutations(papers):
            court = court_of(LONG, rows[:3], [(3, "ann", 9, BEN)])
            court.taken()
            for row in rows[3:]:
                court.file(row)
            answers = [court.docket()] + [ask(court, question) for question in questions()]
            told = told or answers
            self.assertEqual(answers, told)
        self.assertEqual(told[0], papers)

    def test_courts_keep_apart(self):
        one, two = court_of(LONG, BASE, [(3, "ann", 9, BEN)]), Court(LONG)
        self.assertEqual(two.docket(), [])
        self.assertEqual(two.file(claim(1)), 0)
        self.assertEqual(two.dues(0), [])
        self.assertEqual(len(one.docket()), 4)

    def test_two_courts_that_differ_in_sealed_words_alone(self):
        for person in ("public", "ben", "cid"):
            courts = []
            for text in ("mine", "not mine, nor yours"):
                words = (("said", "open"), (text, ("ann",)), (text, "bench"))
                rows = [
                    claim(1, words=words), ruling(2, 1, ((1, 1),), day=1, words=((text, "open"),)),
                    claim(3, by="dot", words=((text, "open"),)), unseal(4, 1, ((1, 0),), day=2, words=words[1:]),
                ]
                courts.append(court_of(LONG, rows[::-1], [(2, "ann", 7, BEN)]))
            one, two = courts
            self.assertNotEqual(one.view("jon", 9), two.view("jon", 9))
            for question in questions(9, person, 0):
                self.assertEqual(ask(one, question), ask(two, question))
            self.assertEqual(one.looked(), two.looked())


class Costs(Asking):
    def test_a_ruling_need_not_be_there_yet(self):
        court = Court(LONG)
        self.assertIsNone(court.award(3, "ann", 100, BEN))
        self.assertEqual(court.dues(0), [])
        for row in BASE:
            court.file(row)
        self.assertEqual(court.dues(0), [("ben", "ann", 100)])
        self.assertIsNone(court.pay(5, "ben", "ann", 30))
        self.assertEqual(court.dues(4), [("ben", "ann", 100)])
        self.assertEqual(court.dues(5), [("ben", "ann", 70)])
        court.file(strike(9, 2, day=7))
        self.assertEqual(court.dues(6), [("ben", "ann", 70)])
        self.assertEqual(court.dues(7), [("ann", "ben", 30)])
        self.assertEqual(court.balance(7), [("ann", -30), ("ben", 30), ("cid", 0), ("dot", 0)])

    def test_late(self):
        court = court_of(CASE, [claim(1), ruling(3, 1, ((1, 0),), day=1)], [(3, "ann", 100, BEN)], [(4, "ben", "ann", 1)])
        self.assertEqual(court.late(3), [])
        self.assertEqual(court.late(4), [("ben", "ann", 99)])

    def test_the_same_twice_counts_twice(self):
        court = court_of(LONG, BASE, [(3, "ann", 100, BEN)] * 2, [(0, "ben", "ann", 30)] * 3)
        self.assertEqual(court.dues(0), [("ben", "ann", 110)])

    def test_no_award(self):
        court = court_of(LONG, BASE, [(3, "ann", 100, BEN)])
        good = (3, "ann", 5, BEN)
        bad = (
            (0, True, "3", None, 1.0, -1, Alike(), Angry()), ("jon", "zed", "public", "ben", "", None, 1, Alike(), Angry()),
            (-1, True, None, "5", 0.5, Alike(), Angry()),
            ((), [], list(BEN), (("ann", 1),), (("jon", 1),), (("ben", 0),), (("ben", True),), (("dot", 1), ("ben", 1)), None),
        )
        for place, things in enumerate(bad):
            for thing in things:
                self.refused(NoAward, court.award, *(good[:place] + (thing,) + good[place + 1:]))
        self.assertEqual(court.dues(0), [("ben", "ann", 100)])

    def test_no_payment(self):
        court = court_of(LONG, BASE, (), [(0, "ben", "ann", 5)])
        good = (0, "ben", "ann", 5)
        names = ("jon", "zed", "public", "", None, 1, Alike(), Angry())
        bad = ((-1, True, None, "0", 0.0, Alike(), Angry()), names + ("ann",), names + ("ben",), (0, -1, True, None, "5", 0.5))
        for place, things in enumerate(bad):
            for thing in things:
                self.refused(NoPayment, court.pay, *(good[:place] + (thing,) + good[place + 1:]))
        self.assertEqual(court.dues(0), [("ann", "ben", 5)])


class News(Asking):
    def told(self, papers, person, since, day, numbers):
        court = court_of(LONG, papers)
        rows = court.news(person, since, day)
        self.assertEqual([row[0] for row in rows], numbers)
        self.assertEqual(rows, plain.news(LONG, papers, person, since, day))
        self.assertEqual(rows, [row for row in court.view(person, day) if row[0] in numbers])

    def test_nothing_is_new(self):
        self.told([], "ann", 0, 30, [])
        for since, day in ((0, 0), (0, 2), (3, 3), (3, 30000), (30000, 3)):
            self.told([claim(1), claim(2, day=3)], "ann", since, day, [])

    def test_papers_filed_since(self):
        papers = [claim(1), motion(2, 1, day=1), claim(3, day=2), evidence(4, 1, day=1), claim(5, day=3, by="ben")]
        self.told(papers, "public", 0, 1, [2, 4])
        self.told(papers, "public", 0, 2, [2, 4, 3])
        self.told(papers, "public", 1, 2, [3])
        self.told(papers, "public", 2, 9, [5])

    def test_in_the_views_order(self):
        papers = [claim(9, day=1), claim(4, day=2), claim(7, day=1), claim(1, day=3)]
        self.told(papers, "ann", 0, 3, [7, 9, 4, 1])

    def test_what_was_ahead_is_not_new_though_it_fell(self):
        self.told(BASE + [strike(5, 3, day=2)], "ann", 0, 2, [5])

    def test_an_unsealing_makes_an_older_row_otherwise(self):
        papers = [claim(1, words=(("a", "open"), ("b", "bench"))), unseal(2, 1, ((1, 1),), day=2)]
        self.told(papers, "public", 0, 2, [1, 2])
        self.told(papers, "ann", 0, 2, [1, 2])
        self.told(papers, "jon", 0, 2, [2])
        self.assertEqual(court_of(LONG, papers).news("public", 0, 2)[0][6], ["a", "b"])

    def test_a_struck_unsealing_makes_an_older_row_otherwise(self):
        papers = [claim(1, words=(("b", "bench"),)), unseal(2, 1, ((1, 0),), day=1), strike(3, 2, day=2)]
        self.told(papers, "public", 1, 2, [1, 3])
        self.told(papers, "public", 0, 2, [2, 3])
        self.told(papers, "kay", 1, 2, [3])
        self.assertEqual(court_of(LONG, papers).news("public", 1, 2)[0][6], [None])

    def test_an_unsealing_shows_the_rulings_that_rest_on_it(self):
        papers = [claim(1, words=(("b", "bench"),)), ruling(2, 1, ((1, 0),)), unseal(3, 1, ((1, 0),), day=2)]
        self.told(papers, "ben", 0, 2, [1, 2, 3])

    def test_an_unsealing_that_shows_nothing_new(self):
        papers = [claim(1), unseal(2, 1, ((1, 0),), day=2)]
        self.told(papers, "public", 0, 2, [2])

    def test_since_behind_the_day(self):
        papers = [claim(1, words=(("b", "bench"),)), unseal(2, 1, ((1, 0),), day=1), strike(3, 2, day=2)]
        self.told(papers, "public", 2, 1, [1])
        self.told(papers, "public", 2, 0, [])
        self.told(papers, "public", 1, 0, [1])
        self.told(papers, "jon", 2, 0, [])

    def test_as_plainly(self):
        older = 0
        for seed in range(60):
            papers = Chance(seed).papers(8 + seed % 12)
            court = court_of(CASE, papers)
            for since, day in ((0, 40), (4, 8), (8, 11), (11, 4), (8, 8)):
                for person in ("ann", "public", "jon"):
                    told = court.news(person, since, day)
                    self.assertEqual(told, plain.news(CASE, papers, person, since, day))
                    older += len([row for row in told if row[1] <= since])
        self.assertGreater(older, 5)


class Looked(Asking):
    def looked(self, court, many):
        self.assertIs(type(court.looked()), int)
        self.assertEqual(court.looked(), many)

    def test_at_first(self):
        court = Court(LONG)
        self.looked(court, 0)
        court.taken()
        self.looked(court, 0)
        for row in BASE:
            court.file(row)
        self.looked(court, 0)

    def test_each_question_reckons_all_that_was_filed(self):
        for question in questions():
            court = court_of(LONG, BASE)
            ask(court, question)
            self.looked(court, 4)

    def test_the_same_question_twice(self):
        for question in questions():
            court = court_of(LONG, BASE)
            ask(court, question)
            ask(court, question)
            self.looked(court, 4)
            court.file(claim(9))
            self.looked(court, 4)
            ask(court, question)
            ask(court, question)
            self.looked(court, 5)

    def test_other_questions_behind_the_first(self):
        court = court_of(LONG, BASE)
        for question in questions() + questions(0):
            ask(court, question)
        self.looked(court, 4)

    def test_papers_behind_the_day_are_reckoned_too(self):
        for question in questions(0, since=0):
            court = court_of(LONG, [claim(1)] + [claim(number, day=9 * number) for number in range(2, 7)])
            ask(court, question)
            self.looked(court, 6)

    def test_a_day_ahead_of_all(self):
        court = court_of(LONG, [claim(1, day=9)])
        self.assertEqual(court.view("ann", 0), [])
        self.looked(court, 1)

    def test_a_filing_at_the_end(self):
        court = court_of(LONG, BASE)
        court.taken()
        court.file(claim(5))
        court.taken()
        self.looked(court, 5)

    def test_a_filing_ahead_of_others(self):
        court = court_of(LONG, [claim(number, day=number) for number in range(1, 7)])
        court.taken()
        self.looked(court, 6)
        for place, (number, day) in ((2, (12, 2)), (0, (13, 0)), (5, (14, 3)), (9, (15, 30))):
            many = court.looked()
            self.assertEqual(court.file(claim(number, day=day)), place)
            court.taken()
            self.looked(court, many + len(court.docket()) - place)

    def test_of_several_filings_from_the_least_place(self):
        for days in itertools.permutations((3, 10, 24)):
            court = court_of(LONG, [claim(number, day=number) for number in range(1, 5)])
            court.taken()
            for day in days:
                court.file(claim(40 + day, day=day))
            court.taken()
            # The paper of day 3 comes to place 3, ahead of that of day 4: these two and two more are reckoned.
            self.looked(court, 4 + 4)

    def test_filings_that_push_others_on(self):
        court = court_of(LONG, [claim(number, day=7) for number in range(10, 20)])
        court.taken()
        self.looked(court, 10)
        self.assertEqual([court.file(claim(number, day=7)) for number in (30, 5, 4, 31)], [10, 0, 0, 13])
        court.taken()
        self.looked(court, 24)

    def test_filings_between_questions_that_hang_on_no_takings(self):
        court = court_of(LONG, BASE)
        court.docket()
        court.looked()
        court.award(3, "ann", 5, BEN)
        court.pay(0, "ben", "ann", 5)
        self.looked(court, 0)
        court.taken()
        court.award(3, "ann", 5, BEN)
        court.pay(0, "ben", "ann", 5)
        court.dues(0)
        self.looked(court, 4)

    def test_refused_questions_reckon_none(self):
        court = court_of(LONG, BASE)
        for name in ("standing", "settled", "reopened", "dues", "late", "balance"):
            self.refused(NoDay, getattr(court, name), -1)
        self.refused(NoPerson, court.view, "zed", 0)
        self.refused(NoDay, court.view, "ann", -1)
        self.refused(NoPerson, court.news, "zed", 0, 0)
        self.refused(NoDay, court.news, "ann", -1, 0)
        self.refused(NoDay, court.news, "ann", 0, -1)
        self.refused(NoPerson, court.sees, "zed", 1, 0, 0)
        self.refused(NoDay, court.sees, "ann", 1, 0, -1)
        self.refused(NoWord, court.sees, "ann", 9, 0, 0)
        self.refused(NoWord, court.sees, "ann", 1, 1, 0)
        self.looked(court, 0)
        court.taken()
        self.looked(court, 4)

    def test_refused_filings_let_none_be_reckoned(self):
        court = court_of(LONG, BASE)
        court.taken()
        self.refused(Twice, court.file, claim(1))
        self.refused(NoPaper, court.file, None)
        court.taken()
        self.looked(court, 4)

    def test_by_a_plain_count(self):
        chance = random.Random(25)
        for seed in range(40):
            court, kept, many, least = Court(CASE), [], 0, None
            for row in Chance(seed).papers(25):
                court.file(row)
                kept.append(row)
                place = plain.docket(CASE, kept).index(row)
                least = place if least is None else min(least, place)
                if chance.random() < 0.4:
                    ask(court, chance.choice(questions(40, since=1)[:-1]))
                    many, least = many + len(kept) - least, None
                    ask(court, chance.choice(questions(40, since=1)[:-1]))
                self.looked(court, many)


class Steps(Asking):
    def chain(self, many):
        papers = [claim(1), evidence(2, 1)]
        for number in range(3, many + 1):
            papers.append(ruling(number, 1, ((number - 2, 0), (number - 1, 0))))
        return papers

    def test_they_grow_by_a_small_power(self):
        def whole(many):
            court = Court(LONG)
            for row in self.chain(many):
                court.file(row)
                for question in questions(since=0):
                    ask(court, question)

        few, many = [steps_of(whole, many) for many in (22, 88)]
        self.assertLess(many, few * 4 ** 3)

    def test_what_is_known_is_not_reckoned_again(self):
        court = court_of(LONG, self.chain(80))
        first = steps_of(court.taken)
        self.assertLess(steps_of(court.taken) * 20, first)
        court.file(claim(99))
        self.assertLess(steps_of(court.taken) * 10, first)

    def test_ninety_papers_from_the_last_one_on(self):
        court = Court(LONG)
        with Soon():
            for row in self.chain(90)[::-1]:
                court.file(row)
                for person in ("public", "jon"):
                    self.assertEqual(len(court.view(person, 0)), len(court.docket()))
        self.assertEqual(court.looked(), 90 * 91 // 2)

    def test_ninety_papers_that_rest_on_all_ahead(self):
        words = (("said", "parties"),) * 8
        papers = [claim(1, words=words)]
        for number in range(2, 91):
            rests = tuple((one, place) for one in range(1, number) for place in range(8))
            papers.append(ruling(number, 1, rests, words=words))
        with Soon():
            court = court_of(LONG, papers, [(90, "ann", 5, BEN)])
            self.assertEqual(court.dues(0), [("ben", "ann", 5)])
            self.assertIs(court.sees("ben", 90, 7, 0), True)
            self.assertIs(court.sees("public", 90, 7, 0), False)


class Refusals(Asking):
    def test_no_day(self):
        court = court_of(LONG, BASE)
        for thing in NO_DAYS:
            for name in ("standing", "settled", "reopened", "dues", "late", "balance"):
                self.refused(NoDay, getattr(court, name), thing)
            self.refused(NoDay, court.view, "ann", thing)
            self.refused(NoDay, court.sees, "ann", 1, 0, thing)
            self.refused(NoDay, court.sees, "ann", 99, True, thing)
            self.refused(NoDay, court.news, "ann", thing, 0)
            self.refused(NoDay, court.news, "ann", 0, thing)

    def test_no_person(self):
        court = court_of(LONG, BASE)
        for thing in NO_PERSONS:
            self.refused(NoPerson, court.view, thing, -1)
            self.refused(NoPerson, court.news, thing, -1, 0)
            self.refused(NoPerson, court.news, thing, 0, None)
            self.refused(NoPerson, court.sees, thing, 99, -1, None)

    def test_no_word(self):
        court = court_of(LONG, BASE + [claim(7, day=3), claim(8, by="ben", words=())])
        for number in (7, 8, 0, -1, 99, True, "1", 1.0) + ANYTHING:
            self.refused(NoWord, court.sees, "ann", number, 0, 2)
        for place in (1, -1, True, False, "0", 0.0, None) + ANYTHING:
            self.refused(NoWord, court.sees, "ann", 1, place, 0)
        self.assertIs(court.sees("ann", 7, 0, 3), True)

    def test_nothing_is_kept_of_what_is_refused(self):
        court = court_of(LONG, BASE, [(3, "ann", 9, BEN)], [(0, "ben", "ann", 2)])
        told = [court.docket(), court.looked()] + [ask(court, question) for question in questions()]
        for act, given in (
            (court.file, (claim(1),)), (court.file, (None,)), (court.file, (claim(50, by="Ann"),)),
            (court.award, (3, "ann", -1, BEN)), (court.award, (3, "ann", 5, ())), (court.pay, (0, "ben", "ann", 0)),
            (court.pay, (-1, "ben", "ann", 5)), (court.view, ("zed", 0)), (court.sees, ("ann", 99, 0, 0)),
        ):
            with self.assertRaises(ValueError):
                act(*given)
        self.assertEqual([court.docket(), 0] + [ask(court, question) for question in questions()], told)


class Keeping(Asking):
    papers = [
        claim(1, words=(("a", "open"), ("b", "bench"))), answer(2, 1, words=()), ruling(3, 1, ((1, 0),), words=()),
        strike(4, 3, day=2), paper(5, "zed", "claim", day=3),
    ]

    def test_what_is_told_is_the_askers_own(self):
        court = court_of(LONG, self.papers, [(3, "ann", 9, BEN)], [(0, "ben", "dot", 2)])
        asks = questions() + questions(1) + [("docket", ())]
        told = [ask(court, question) for question in asks]
        for question, rows in zip(asks, told):
            again = ask(court, question)
            if isinstance(again, list):
                for row in again:
                    if isinstance(row, tuple) and isinstance(row[-1], list):
                        row[-1].append("x")
                again.append("x")
                again.reverse()
                again.clear()
            self.assertEqual(ask(court, question), rows)

    def test_no_two_lists_told_at_once_are_one(self):
        court = court_of(LONG, self.papers)
        for rows in (court.view("public", 9), court.news("public", 0, 9), court.news("jon", 0, 2)):
            texts = [row[6] for row in rows]
            self.assertEqual(len({id(one) for one in texts}), len(texts))

    def test_nothing_that_is_done_later_changes_what_was_told(self):
        court = court_of(LONG, self.papers[:3])
        told = [ask(court, question) for question in questions() + [("docket", ())]]
        kept = repr(told)
        for row in self.papers[3:] + [claim(9), unseal(8, 1, ((1, 1),))]:
            court.file(row)
        court.award(3, "ann", 9, BEN)
        court.pay(0, "ben", "dot", 2)
        for question in questions():
            ask(court, question)
        self.assertEqual(repr(told), kept)

    def test_kinds_of_what_is_told(self):
        court = court_of(LONG, self.papers, [(3, "ann", 9, BEN)])
        for question in questions():
            self.assertIs(type(ask(court, question)), bool if question[0] == "sees" else list)
        self.assertIs(type(court.docket()), list)
        self.assertIsNone(court.award(3, "ann", 9, BEN))
        self.assertIsNone(court.pay(0, "ben", "dot", 2))


if __name__ == "__main__":
    unittest.main()
