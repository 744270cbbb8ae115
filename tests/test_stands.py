"""Points 16 to 18: what stands, leans, falls, is settled and reopened."""

import itertools
import unittest

from heardhouse.errors import NoCase, NoDay, NoNumber, NoPaper
from heardhouse.papers import taken
from heardhouse.stands import falls, leans, reopened, settled, standing
from tests import plain
from tests.asking import NO_CASES, NO_DAYS, NO_PAPERS, Asking, Soon
from tests.chance import Chance
from tests.house import (
    ANYTHING, CASE, LONG, answer, appeal, claim, decision, evidence, motion, reply, ruling, strike, unseal,
)

BY_DAY = (standing, leans, settled, reopened)
# One claim, ruled on by what an evidence says, and appealed against.
BASE = [claim(1), evidence(2, 1), ruling(3, 1, ((2, 0),)), appeal(4, 3)]
UNDONE = BASE + [decision(5, 4, "undone")]


class Standing(Asking):
    def told(self, papers, numbers, day=0):
        self.assertEqual(standing(LONG, papers, day), numbers)

    def test_no_papers(self):
        self.told([], [])
        self.told([], [], 30000)

    def test_all_that_is_taken_stands(self):
        papers = [claim(5), motion(6, 5), answer(7, 5), reply(8, 6), evidence(9, 6), unseal(10, 5, ((5, 0),))]
        self.told(papers, [5, 6, 7, 8, 9, 10])
        self.told(BASE, [1, 2, 3, 4])

    def test_what_is_refused_does_not_stand(self):
        self.told([claim(1, by="ben"), claim(2), motion(3, 9), ruling(4, 2, ())], [2])

    def test_rising_whatever_the_docket(self):
        self.told([claim(3), claim(1, day=4), claim(2, day=2)], [1, 2, 3], 4)

    def test_up_to_the_day(self):
        papers = [claim(1, day=3), strike(2, 1, day=8)]
        self.told(papers, [], 0)
        self.told(papers, [], 2)
        self.told(papers, [1], 3)
        self.told(papers, [1], 7)
        self.told(papers, [2], 8)
        self.told(papers, [2], 30000)

    def test_by_filed_days(self):
        papers = [claim(1, day=5)]
        for day, numbers in ((5, []), (6, []), (7, [1])):
            self.told(papers, numbers, day)
        self.assertEqual(standing(CASE, [claim(1, day=9)], 10), [])
        self.assertEqual(standing(CASE, [claim(1, day=9)], 11), [1])

    def test_a_closed_day_may_be_asked(self):
        self.told([claim(1, day=4)], [1], 5)

    def test_of_one_number_the_first_counts_though_it_is_behind(self):
        self.told([claim(1, day=8), claim(1), claim(2)], [2], 7)
        self.told([claim(1, day=8), claim(1), claim(2)], [1, 2], 8)

    def test_strikes_on_strikes(self):
        papers = [claim(1), evidence(2, 1)]
        for number in range(3, 20):
            papers.append(strike(number, number - 1))
            self.told(papers, [1] + list(range(number, 1, -2))[::-1])

    def test_a_strike_may_fall_by_either_of_two(self):
        papers = [claim(1), strike(2, 1), strike(3, 2), strike(4, 2)]
        self.told(papers, [1, 3, 4])
        self.told(papers + [strike(5, 3)], [1, 4, 5])
        self.told(papers + [strike(5, 3), strike(6, 4)], [2, 5, 6])

    def test_decisions(self):
        for text, numbers in (("undone", [1, 2, 4, 5]), ("back", [1, 2, 4, 5]), ("upheld", [1, 2, 3, 4, 5])):
            self.told(BASE + [decision(5, 4, text)], numbers)

    def test_a_struck_decision_or_appeal_undoes_nothing(self):
        self.told(UNDONE + [strike(6, 5)], [1, 2, 3, 4, 6])
        self.told(UNDONE + [strike(6, 4)], [1, 2, 3, 5, 6])
        self.told(UNDONE + [strike(6, 5), strike(7, 6)], [1, 2, 4, 5, 7])
        self.told(UNDONE + [strike(6, 4), strike(7, 6)], [1, 2, 4, 5, 7])

    def test_a_decision_counts_from_its_day_on(self):
        papers = BASE + [decision(5, 4, "undone", day=3), strike(6, 5, day=4)]
        self.told(papers, [1, 2, 3, 4], 2)
        self.told(papers, [1, 2, 4, 5], 3)
        self.told(papers, [1, 2, 3, 4, 6], 4)

    def test_rulings_on_rulings(self):
        papers = [claim(1), ruling(2, 1, ((1, 0),)), ruling(3, 1, ((2, 0),)), ruling(4, 1, ((1, 0), (3, 0)))]
        self.told(papers, [1, 2, 3, 4])
        self.told(papers + [strike(5, 2)], [1, 5])
        self.told(papers + [strike(5, 3)], [1, 2, 5])
        self.told(papers + [appeal(5, 2), decision(6, 5)], [1, 5, 6])
        self.told(papers + [strike(5, 1)], [5])

    def test_a_ruling_falls_with_what_it_is_about(self):
        papers = [claim(1), motion(2, 1), ruling(3, 2, ((1, 0),))]
        self.told(papers + [strike(4, 2)], [1, 4])
        self.told([claim(1), motion(2, 1), ruling(3, 2, ((2, 0),)), strike(4, 1)], [2, 3, 4])

    def test_an_appeal_and_a_decision_stand_without_their_ruling(self):
        self.told(BASE + [strike(5, 3)], [1, 2, 4, 5])
        self.told(UNDONE + [strike(6, 3)], [1, 2, 4, 5, 6])

    def test_a_taking_does_not_hang_on_papers_behind_the_day(self):
        papers = [claim(1), ruling(2, 1, ((1, 0),)), appeal(3, 2, day=1), decision(4, 3, "back", day=2)]
        papers.append(ruling(5, 1, ((1, 0),), day=3))
        self.told(papers, [1, 2], 0)
        self.told(papers, [1, 3, 4], 3)


class Leans(Asking):
    def test_what_a_ruling_rests_on_and_is_about(self):
        self.assertEqual(leans(LONG, BASE, 0), [(3, 1), (3, 2)])
        self.assertEqual(leans(LONG, [], 0), [])
        self.assertEqual(leans(LONG, [claim(1), motion(2, 1), unseal(3, 1, ((1, 0),))], 0), [])

    def test_each_once(self):
        word = ("said", "open")
        papers = [claim(1, words=(word,) * 3), ruling(2, 1, ((1, 0), (1, 1), (1, 2)))]
        self.assertEqual(leans(LONG, papers, 0), [(2, 1)])

    def test_rising(self):
        papers = [
            claim(9), claim(3), ruling(8, 3, ((3, 0),), day=1), ruling(2, 9, ((3, 0), (8, 0), (9, 0)), day=2),
            ruling(10, 9, ((2, 0), (3, 0)), day=3),
        ]
        told = [(2, 3), (2, 8), (2, 9), (8, 3), (10, 2), (10, 3), (10, 9)]
        self.assertEqual(leans(LONG, papers, 3), told)
        self.assertEqual(leans(LONG, papers, 2), told[:4])
        self.assertEqual(leans(LONG, papers, 1), [(8, 3)])
        self.assertEqual(leans(LONG, papers, 0), [])

    def test_struck_and_undone_rulings_lean_too(self):
        for more in ([strike(6, 3)], [decision(6, 4)], [strike(6, 2)], [strike(6, 1)]):
            self.assertEqual(leans(LONG, BASE + more, 0), [(3, 1), (3, 2)])

    def test_refused_rulings_do_not(self):
        self.assertEqual(leans(LONG, [claim(1), ruling(2, 1, ((3, 0),)), ruling(4, 1, ((1, 0),), by="ann")], 0), [])


class Falls(Asking):
    def told(self, papers, number, numbers, day=0):
        self.assertEqual(falls(LONG, papers, number, day), numbers)

    def test_what_rests_on_a_paper(self):
        self.told(BASE, 1, [3])
        self.told(BASE, 2, [3])
        self.told(BASE, 4, [])

    def test_a_ruling_is_among_them_itself(self):
        self.told(BASE, 3, [3])

    def test_through_other_rulings(self):
        papers = BASE + [ruling(5, 1, ((3, 0),)), ruling(6, 1, ((5, 0),)), ruling(7, 1, ((1, 0),))]
        self.told(papers, 2, [3, 5, 6])
        self.told(papers, 3, [3, 5, 6])
        self.told(papers, 5, [5, 6])
        self.told(papers, 6, [6])
        self.told(papers, 7, [7])
        self.told(papers, 1, [3, 5, 6, 7])

    def test_a_ruling_that_does_not_stand_falls_no_more(self):
        for more in ([decision(5, 4)], [strike(5, 3)], [strike(5, 2)]):
            for number in (1, 2, 3, 4, 5):
                self.told(BASE + more, number, [])

    def test_a_strike_that_keeps_another_from_striking(self):
        papers = BASE + [strike(5, 2), strike(6, 5)]
        self.told(papers, 6, [3])
        self.told(papers, 5, [])
        self.told(papers + [strike(7, 6), strike(8, 7)], 8, [3])
        self.told(papers + [strike(7, 6), strike(8, 7)], 7, [])

    def test_a_strike_of_a_decision_or_of_its_appeal(self):
        for number in (4, 5):
            papers = UNDONE + [strike(6, number)]
            self.told(papers, 6, [3])
            self.told(papers, number, [])

    def test_a_decision_that_stands_lets_nothing_fall(self):
        self.told(UNDONE, 5, [])
        self.told(UNDONE, 4, [])
        self.told(BASE + [decision(5, 4, "upheld")], 5, [])

    def test_a_strike_that_lets_a_ruling_stand_and_another_fall(self):
        papers = BASE + [decision(5, 4), strike(6, 5), claim(7), ruling(8, 7, ((7, 0),)), ruling(9, 7, ((3, 0),))]
        self.told(papers, 6, [3, 9])

    def test_a_refused_paper(self):
        papers = BASE + [claim(5, by="ben"), strike(6, 2, by="ann"), ruling(7, 1, ())]
        for number in (5, 6, 7):
            self.told(papers, number, [])

    def test_only_refused_papers(self):
        self.told([claim(1, by="ben")], 1, [])

    def test_a_paper_that_is_struck_already(self):
        papers = BASE + [evidence(5, 1), strike(6, 5)]
        self.told(papers, 5, [])
        self.told(papers, 6, [])

    def test_other_kinds(self):
        papers = BASE + [motion(5, 1), reply(6, 5), answer(7, 1), unseal(8, 1, ((1, 0),))]
        papers += [ruling(9, 5, ((6, 0),)), ruling(10, 5, ((7, 0), (8, 0)))]
        self.told(papers, 5, [9, 10])
        self.told(papers, 6, [9])
        self.told(papers, 7, [10])
        self.told(papers, 8, [10])
        self.told(papers, 2, [3])

    def test_rising_whatever_the_docket(self):
        papers = [claim(9), ruling(5, 9, ((9, 0),), day=3), ruling(7, 9, ((9, 0),), day=1)]
        papers.append(ruling(2, 9, ((7, 0),), day=2))
        self.told(papers, 9, [2, 5, 7], 3)
        self.told(papers, 9, [2, 7], 2)
        self.told(papers, 7, [2, 7], 3)

    def test_at_the_day(self):
        papers = [claim(1), ruling(2, 1, ((1, 0),), day=1), ruling(3, 1, ((2, 0),), day=2)]
        self.told(papers, 1, [], 0)
        self.told(papers, 1, [2], 1)
        self.told(papers, 1, [2, 3], 2)

    def test_no_number(self):
        papers = [claim(1), motion(2, 1, day=3), claim(4, by="ben")]
        for thing in (2, 3, 0, -1, 5, 10 ** 12, "1", "", 1.0, (1,), [1]) + ANYTHING:
            self.refused(NoNumber, falls, LONG, papers, thing, 0)
        self.told(papers, 4, [])
        self.told(papers, 2, [], 3)
        self.refused(NoNumber, falls, LONG, [], 1, 30000)
        self.refused(NoNumber, falls, LONG, [claim(1, day=7)], 1, 6)
        self.refused(NoNumber, falls, LONG, [claim(1, day=5)], 1, 6)

    def test_as_a_real_strike_would(self):
        for seed in range(120):
            papers = Chance(seed).papers(24)
            day = (7, 14, 21, 28)[seed % 4]
            before = standing(LONG, papers, day)
            kinds = {row[0]: row[3] for row in papers}
            for number, word in taken(LONG, [row for row in papers if plain.next_open((), row[1]) <= day]):
                after = standing(LONG, papers + [strike(99, number, day=day)], day)
                gone = [one for one in before if kinds[one] == "ruling" and one not in after]
                self.assertEqual(falls(LONG, papers, number, day), gone if word == "taken" else [])


class Settled(Asking):
    def told(self, papers, rows, numbers=(), day=0):
        self.assertEqual(settled(LONG, papers, day), rows)
        self.assertEqual(reopened(LONG, papers, day), list(numbers))

    def test_without_rulings(self):
        self.told([], [])
        self.told([claim(1), motion(2, 1), answer(3, 1), evidence(4, 1)], [(1, None), (2, None)])

    def test_rising_whatever_the_docket(self):
        papers = [claim(3), claim(1, day=2), motion(2, 3, day=1)]
        self.told(papers, [(1, None), (2, None), (3, None)], day=2)
        self.told(papers, [(2, None), (3, None)], day=1)

    def test_one_ruling(self):
        self.told(BASE, [(1, 3)])

    def test_the_last_of_several_by_the_docket(self):
        papers = [claim(1), ruling(5, 1, ((1, 0),), day=1), ruling(3, 1, ((1, 0),), day=2), ruling(4, 1, ((1, 0),))]
        self.told(papers, [(1, 4)], day=0)
        self.told(papers, [(1, 5)], day=1)
        self.told(papers, [(1, 3)], day=2)

    def test_the_last_one_that_stands(self):
        papers = [claim(1), ruling(2, 1, ((1, 0),)), ruling(3, 1, ((1, 0),)), ruling(4, 1, ((3, 0),))]
        self.told(papers, [(1, 4)])
        self.told(papers + [strike(5, 4)], [(1, 3)])
        self.told(papers + [strike(5, 3)], [(1, 2)])
        self.told(papers + [appeal(5, 3), decision(6, 5)], [(1, 2)])
        self.told(papers + [strike(5, 3), strike(6, 2)], [(1, None)], [1])

    def test_a_refused_ruling_settles_nothing(self):
        self.told([claim(1), ruling(2, 1, ()), ruling(3, 1, ((1, 0),), by="ann")], [(1, None)])

    def test_reopened_by_a_strike_or_a_decision(self):
        self.told(BASE + [strike(5, 3)], [(1, None)], [1])
        self.told(BASE + [decision(5, 4, "undone")], [(1, None)], [1])
        self.told(BASE + [decision(5, 4, "back")], [(1, None)], [1])
        self.told(BASE + [strike(5, 2)], [(1, None)], [1])
        self.told(BASE + [decision(5, 4, "upheld")], [(1, 3)])
        self.told(UNDONE + [strike(6, 5)], [(1, 3)])

    def test_ruled_on_anew(self):
        self.told(UNDONE + [ruling(6, 1, ((1, 0),))], [(1, 6)])

    def test_a_struck_claim_is_neither(self):
        self.told(BASE + [strike(5, 1)], [])
        papers = [claim(1), motion(2, 1), ruling(3, 2, ((1, 0),)), strike(4, 3)]
        self.told(papers, [(1, None), (2, None)], [2])
        self.told(papers + [strike(5, 2)], [(1, None)])

    def test_reopened_rises(self):
        papers = [claim(9), claim(3, day=1), motion(5, 9, day=1), motion(6, 9, day=1)]
        papers += [ruling(20 + row[0], row[0], ((9, 0),), day=1) for row in papers if row[0] != 6]
        papers += [strike(40 + number, number, day=2) for number in (23, 25, 29)]
        self.told(papers, [(3, None), (5, None), (6, None), (9, None)], [3, 5, 9], day=2)
        self.told(papers, [(3, 23), (5, 25), (6, None), (9, 29)], day=1)

    def test_a_claim_and_its_motion_are_settled_apart(self):
        papers = [claim(1), motion(2, 1), ruling(3, 2, ((1, 0),)), ruling(4, 1, ((1, 0),))]
        self.told(papers, [(1, 4), (2, 3)])


class AsPlainly(Asking):
    def test_many_cases_at_many_days(self):
        many = {ask: 0 for ask in BY_DAY + (falls,)}
        for seed in range(150):
            papers = Chance(seed).papers(8 + seed % 20)
            case = (CASE, LONG)[seed % 2]
            for day in (0, 3, 6, 9, 14, 18, 40):
                for ask in BY_DAY:
                    told = ask(case, papers, day)
                    self.assertEqual(told, getattr(plain, ask.__name__)(case, papers, day), (seed, day))
                    many[ask] += len(told)
                for row, _ in plain.rows(case, papers, day):
                    told = falls(case, papers, row[0], day)
                    self.assertEqual(told, plain.falls(case, papers, row[0], day), (seed, day, row))
                    many[falls] += len(told)
        for ask, count in many.items():
            self.assertGreater(count, 50, ask)

    def test_in_whatever_order_they_came(self):
        papers = UNDONE + [strike(6, 5, day=1)]
        for row in itertools.permutations(papers):
            for ask in BY_DAY:
                self.assertEqual(ask(LONG, list(row), 1), ask(LONG, papers, 1))

    def test_ninety_papers(self):
        word = ("said", "open")
        papers = [claim(1, words=(word,) * 8)]
        for number in range(2, 91):
            rests = tuple((one, place) for one in range(max(1, number - 12), number) for place in range(8))
            papers.append(ruling(number, 1, rests, words=(word,) * 8))
        with Soon():
            self.assertEqual(standing(LONG, papers, 0), list(range(1, 91)))
            self.assertEqual(falls(LONG, papers, 40, 0), list(range(40, 91)))
            self.assertEqual(settled(LONG, papers, 0), [(1, 90)])
            self.assertEqual(len(leans(LONG, papers, 0)), 12 * 13 // 2 + 77 * 13)


class Refusals(Asking):
    def test_no_case(self):
        for thing in NO_CASES:
            for ask in BY_DAY:
                self.refused(NoCase, ask, thing, BASE, 0)
                self.refused(NoCase, ask, thing, None, None)
            self.refused(NoCase, falls, thing, BASE, 1, 0)
            self.refused(NoCase, falls, thing, None, None, None)

    def test_no_papers(self):
        for thing in NO_PAPERS:
            for ask in BY_DAY:
                self.refused(NoPaper, ask, LONG, thing, 0)
                self.refused(NoPaper, ask, LONG, thing, -1)
            self.refused(NoPaper, falls, LONG, thing, 1, 0)
            self.refused(NoPaper, falls, LONG, thing, None, None)

    def test_no_day(self):
        for thing in NO_DAYS:
            for ask in BY_DAY:
                self.refused(NoDay, ask, LONG, BASE, thing)
            self.refused(NoDay, falls, LONG, BASE, 1, thing)
            self.refused(NoDay, falls, LONG, BASE, 99, thing)
            self.refused(NoDay, falls, LONG, BASE, None, thing)

    def test_names_of_arguments(self):
        for ask in BY_DAY:
            self.assertEqual(ask(day=0, papers=BASE, case=LONG), ask(LONG, BASE, 0))
        self.assertEqual(falls(day=0, number=2, papers=BASE, case=LONG), [3])


class Keeping(Asking):
    def test_what_is_told_is_the_askers_own(self):
        papers = list(BASE)
        for ask in BY_DAY + (lambda case, papers, day: falls(case, papers, 2, day),):
            one, two = ask(LONG, papers, 0), ask(LONG, papers, 0)
            self.assertIs(type(one), list)
            self.assertIsNot(one, two)
            one.append(None)
            one.reverse()
            self.assertEqual(ask(LONG, papers, 0), two)
        self.assertEqual(papers, BASE)

    def test_a_list_that_is_changed_later_changes_nothing_told(self):
        papers = list(BASE)
        told = standing(LONG, papers, 0)
        papers.append(strike(5, 2))
        self.assertEqual(told, [1, 2, 3, 4])
        self.assertEqual(standing(LONG, papers, 0), [1, 4, 5])

    def test_kinds_of_what_is_told(self):
        for rows in (leans(LONG, BASE, 0), settled(LONG, BASE, 0)):
            for row in rows:
                self.assertIs(type(row), tuple)


if __name__ == "__main__":
    unittest.main()
