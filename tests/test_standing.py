"""What stands at a place of the docket, as far as a taking hangs on it."""

import unittest

from heardhouse.papers import taken, taking
from tests import plain
from tests.chance import Chance
from tests.house import CASE, LONG, appeal, claim, decision, evidence, motion, reply, ruling, strike, unseal

BASE = [claim(1), evidence(2, 1), ruling(3, 1, ((2, 0),)), appeal(4, 3)]


class Asking(unittest.TestCase):
    def stands(self, right, ahead, number):
        """Whether a ruling that rests on a paper is taken just behind the papers."""
        probe = ruling(80, 70, ((number, 0),), by="lou")
        told = dict(taken(LONG, ahead + [claim(70), probe]))
        for row in ahead:
            self.assertEqual(told[row[0]], "taken")
        self.assertEqual(told[80], "taken" if right else "rests")


class Strikes(Asking):
    def test_what_is_struck_does_not_stand(self):
        self.stands(True, [claim(1), evidence(2, 1)], 2)
        self.stands(False, [claim(1), evidence(2, 1), strike(3, 2)], 2)
        self.stands(False, [claim(1), strike(2, 1)], 1)

    def test_each_kind_can_be_struck(self):
        ahead = [
            claim(1), motion(2, 1), reply(3, 2), evidence(4, 1), ruling(5, 1, ((1, 0),)),
            unseal(6, 1, ((1, 0),)), appeal(7, 5), decision(8, 7, "upheld"), strike(9, 4),
        ]
        for row in ahead:
            if row[0] != 4:
                self.stands(True, ahead, row[0])
                self.stands(False, ahead + [strike(10, row[0])], row[0])

    def test_a_paper_about_a_struck_one_stands_where_it_is_no_ruling(self):
        self.stands(True, [claim(1), motion(2, 1), reply(3, 2), strike(4, 2), strike(5, 1)], 3)
        self.stands(True, [claim(1), motion(2, 1), strike(3, 1)], 2)
        self.stands(True, BASE + [strike(5, 3)], 4)

    def test_strikes_of_strikes(self):
        row = [claim(1), evidence(2, 1)]
        for number in range(3, 70):
            row.append(strike(number, number - 1))
            self.stands((number - 2) % 2 == 0, row, 2)
            self.stands(True, row, number)
            self.stands(False, row, number - 1)

    def test_of_two_strikes_one_is_enough(self):
        row = [claim(1), evidence(2, 1), strike(3, 2), strike(4, 2), strike(5, 3)]
        self.stands(False, row, 2)
        self.stands(False, row, 3)
        self.stands(True, row, 4)
        self.stands(True, row + [strike(6, 4)], 2)

    def test_a_refused_strike_strikes_nothing(self):
        papers = [claim(1), strike(2, 1, by="ann"), strike(3, 9), ruling(4, 1, ((1, 0),))]
        self.assertEqual(dict(taken(LONG, papers))[4], "taken")

    def test_a_strike_behind_strikes_nothing_yet(self):
        papers = [claim(1), ruling(2, 1, ((1, 0),)), strike(3, 1), ruling(4, 1, ((1, 0),)), strike(5, 3)]
        papers.append(ruling(6, 1, ((1, 0),)))
        told = [word for _, word in taken(LONG, papers)]
        self.assertEqual(told, ["taken", "taken", "taken", "rests", "taken", "taken"])

    def test_by_places_and_not_by_days(self):
        papers = [claim(1), ruling(2, 1, ((1, 0),), day=3), strike(3, 1, day=2)]
        self.assertEqual(dict(taken(LONG, papers))[2], "rests")
        papers = [claim(1), ruling(3, 1, ((1, 0),)), strike(2, 1)]
        self.assertEqual(dict(taken(LONG, papers))[3], "rests")
        papers = [claim(1, day=5), strike(3, 1, day=7), ruling(2, 1, ((1, 0),), day=6)]
        self.assertEqual(dict(taken(LONG, papers))[2], "taken")


class Rulings(Asking):
    def test_falls_with_what_it_rests_on(self):
        self.stands(True, BASE, 3)
        self.stands(False, BASE + [strike(5, 2)], 3)
        self.stands(True, BASE + [strike(5, 2), strike(6, 5)], 3)

    def test_falls_with_any_of_its_rests(self):
        row = [claim(1), evidence(2, 1), evidence(3, 1), ruling(4, 1, ((2, 0), (3, 0)))]
        self.stands(False, row + [strike(5, 2)], 4)
        self.stands(False, row + [strike(5, 3)], 4)

    def test_falls_with_what_it_is_about(self):
        row = [claim(1), motion(2, 1), ruling(3, 2, ((1, 0),))]
        self.stands(False, row + [strike(4, 2)], 3)
        self.stands(False, [claim(1), evidence(2, 1), ruling(3, 1, ((2, 0),)), strike(4, 1)], 3)

    def test_what_its_motion_is_about_does_not_matter(self):
        row = [claim(1), motion(2, 1), ruling(3, 2, ((2, 0),)), strike(4, 1)]
        self.stands(True, row, 3)

    def test_long_rows_of_rulings(self):
        row = [claim(1), evidence(2, 1)]
        for number in range(3, 65):
            row.append(ruling(number, 1, ((number - 1, 0),)))
        self.stands(True, row, 64)
        for struck in (2, 3, 40, 64):
            self.stands(False, row + [strike(65, struck)], 64)
            self.stands(True, row + [strike(65, struck), strike(66, 65)], 64)
        self.stands(True, row + [strike(65, 40)], 39)
        self.stands(False, row + [strike(65, 40)], 41)

    def test_wide_rests_are_reckoned_soon(self):
        row = [claim(1)]
        for number in range(2, 65):
            row.append(ruling(number, 1, tuple((one, 0) for one in range(1, number))))
        self.stands(True, row, 64)
        self.stands(False, row + [strike(65, 2)], 64)

    def test_undone_and_sent_back(self):
        self.stands(False, BASE + [decision(5, 4, "undone")], 3)
        self.stands(False, BASE + [decision(5, 4, "back")], 3)
        self.stands(True, BASE + [decision(5, 4, "upheld")], 3)

    def test_what_rests_on_an_undone_ruling_falls(self):
        row = [claim(1), ruling(2, 1, ((1, 0),)), ruling(3, 1, ((2, 0),)), appeal(4, 2), decision(5, 4)]
        self.stands(False, row, 3)
        self.stands(True, row, 1)
        self.stands(True, row + [strike(6, 5)], 3)

    def test_a_struck_decision_or_appeal_undoes_nothing(self):
        for struck in (4, 5):
            row = BASE + [decision(5, 4), strike(6, struck)]
            self.stands(True, row, 3)
            self.stands(False, row + [strike(7, 6)], 3)
            self.stands(True, row + [strike(7, 6), strike(8, 7)], 3)

    def test_of_two_decisions_one_is_enough(self):
        row = BASE + [appeal(5, 3, by="dot"), decision(6, 4, "upheld"), decision(7, 5, "undone")]
        self.stands(False, row, 3)
        self.stands(True, row + [strike(8, 7)], 3)
        row = BASE + [appeal(5, 3, by="dot"), decision(6, 4, "back"), decision(7, 5, "undone")]
        self.stands(False, row + [strike(8, 7)], 3)
        self.stands(True, row + [strike(8, 7), strike(9, 6)], 3)

    def test_a_decision_undoes_its_own_ruling_alone(self):
        row = [claim(1), ruling(2, 1, ((1, 0),)), ruling(3, 1, ((1, 0),)), appeal(4, 2), decision(5, 4)]
        self.stands(False, row, 2)
        self.stands(True, row, 3)
        self.stands(True, row, 4)
        self.stands(True, row, 5)

    def test_a_refused_decision_undoes_nothing(self):
        for row in (decision(5, 4, by="jon"), decision(5, 4, by="ann"), decision(5, 9), decision(5, 4, "no")):
            told = dict(taken(LONG, BASE + [row, ruling(6, 1, ((3, 0),), by="lou")]))
            self.assertEqual(told[6], "taken")

    def test_taking_asks_what_stands_ahead(self):
        ahead = [(row, "taken") for row in BASE + [decision(5, 4)]]
        probe = ruling(6, 1, ((3, 0),), by="lou")
        self.assertEqual(taking(LONG, ahead, probe), "rests")
        self.assertEqual(taking(LONG, ahead[:4], probe), "taken")
        self.assertEqual(taking(LONG, ahead[:4] + [(decision(5, 4), "own")], probe), "taken")
        self.assertEqual(taking(LONG, ahead + [(strike(7, 5), "taken")], probe), "taken")
        self.assertEqual(taking(LONG, ahead + [(strike(7, 5), "maker")], probe), "rests")


class AsPlainly(unittest.TestCase):
    def test_takings_of_many_cases(self):
        seen = {}
        for seed in range(400):
            papers = Chance(seed).papers(12 + seed % 20)
            case = (CASE, LONG)[seed % 2]
            told = taken(case, papers)
            self.assertEqual(told, plain.taken(case, papers), seed)
            for _, word in told:
                seen[word] = seen.get(word, 0) + 1
        for word in ("taken", "maker", "about", "own", "late", "twice", "rests", "words"):
            self.assertGreater(seen.get(word, 0), 20, word)

    def test_ninety_papers(self):
        for seed in range(3):
            papers = Chance(seed + 1000).papers(90)
            self.assertEqual(len(taken(LONG, papers)), 90)


if __name__ == "__main__":
    unittest.main()
