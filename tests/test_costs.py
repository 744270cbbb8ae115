"""Points 21 and 22: awards, how they are shared, payments, and who owes whom what."""

import itertools
import random
import unittest

from heardhouse.costs import balance, dues, is_award, is_payment, late, parted
from heardhouse.errors import NoAward, NoCase, NoDay, NoPaper, NoPayment
from tests import plain
from tests.asking import BUT_NO_LIST, NO_CASES, NO_DAYS, NO_PAPERS, Asking, Soon
from tests.chance import Chance
from tests.house import (
    ANYTHING, CASE, LONG, Alike, Angry, appeal, claim, decision, evidence, motion, ruling, strike, unseal,
)

ASKS = (dues, late, balance)
BEN = (("ben", 1),)
AWARD = (3, "ann", 100, BEN)
PAYMENT = (0, "ben", "ann", 40)
# One claim, ruled on by what an evidence says, and appealed against.
BASE = [claim(1), evidence(2, 1), ruling(3, 1, ((2, 0),)), appeal(4, 3)]
# Neither of these is a whole number, a name, a tuple of shares or anything else in an award or a payment.
ODD = (None, True, False, -1, 0.0, 1.0, "", "zed", "public", "jon", b"ann", (), [], {}, ((),), Alike(), Angry())

NO_SHARES = ANYTHING + (
    (), [("ann", 1)], (["ann", 1],), (("ann",),), (("ann", 1, 1),), ("ann", 1), (("ann", 0),), (("ann", -1),),
    (("ann", True),), (("ann", 1.0),), (("ann", "1"),), (("ann", None),), (("Ann", 1),), (("", 1),), (("public", 1),),
    ((1, 1),), ((None, 1),), (("ben", 1), ("ann", 1)), (("ann", 1), ("ann", 2)), (("ann", 1), None), {"ann": 1},
    (("ann", Alike()),), ((Alike(), 1),), ((Angry(), 1),), (("ann", Angry()),), (("abcdefghi", 1),),
)


def changed(row, place, thing):
    return row[:place] + (thing,) + row[place + 1:]


class Parted(Asking):
    def parts(self, coins, weights):
        shares = tuple((name, weight) for name, weight in zip("abcdefghijkl", weights))
        told = parted(coins, shares)
        self.assertEqual([name for name, _ in told], [name for name, _ in shares])
        self.assertEqual(sum(part for _, part in told), coins)
        self.assertEqual(told, plain.parted(coins, shares))
        return [part for _, part in told]

    def test_without_rests(self):
        self.assertEqual(self.parts(10, (1, 1)), [5, 5])
        self.assertEqual(self.parts(12, (1, 2, 3)), [2, 4, 6])

    def test_the_greatest_rests_get_what_is_left(self):
        self.assertEqual(self.parts(10, (1, 2, 4)), [1, 3, 6])
        self.assertEqual(self.parts(10, (4, 2, 1)), [6, 3, 1])
        self.assertEqual(self.parts(1, (1, 2)), [0, 1])
        self.assertEqual(self.parts(7, (3, 5)), [3, 4])

    def test_of_like_rests_the_first_ones(self):
        self.assertEqual(self.parts(10, (1, 1, 1)), [4, 3, 3])
        self.assertEqual(self.parts(11, (1, 1, 1)), [4, 4, 3])
        self.assertEqual(self.parts(1, (5, 5)), [1, 0])
        self.assertEqual(self.parts(5, (2, 1, 2, 1)), [2, 1, 1, 1])
        self.assertEqual(self.parts(3, (2, 1, 2, 1)), [1, 1, 1, 0])
        self.assertEqual(self.parts(11, (1,) * 12), [1] * 11 + [0])

    def test_like_rests_behind_a_greater_one(self):
        self.assertEqual(self.parts(3, (1, 1, 2)), [1, 1, 1])
        self.assertEqual(self.parts(2, (1, 1, 3)), [1, 0, 1])
        self.assertEqual(self.parts(5, (1, 2, 2, 4)), [1, 1, 1, 2])

    def test_a_whole_part_without_a_rest_gets_none(self):
        self.assertEqual(self.parts(5, (2, 1, 1)), [3, 1, 1])
        self.assertEqual(self.parts(6, (4, 1, 1, 2)), [3, 1, 1, 1])

    def test_nothing_to_part(self):
        self.assertEqual(self.parts(0, (1, 2, 3)), [0, 0, 0])
        self.assertEqual(self.parts(0, (7,)), [0])

    def test_one_share(self):
        self.assertEqual(self.parts(999999999999, (3,)), [999999999999])
        self.assertEqual(self.parts(1, (999999999999,)), [1])

    def test_fewer_coins_than_shares(self):
        self.assertEqual(self.parts(2, (1, 1, 1, 1)), [1, 1, 0, 0])
        self.assertEqual(self.parts(1, (1, 1, 2, 1)), [0, 0, 1, 0])

    def test_great_sums(self):
        great = 999999999999
        self.assertEqual(self.parts(great, (great - 1, great)), [(great - 1) // 2, great // 2 + 1])
        self.assertEqual(self.parts(great, (1, great)), [1, great - 1])
        self.assertEqual(self.parts(10 ** 40 + 1, (1, 1)), [5 * 10 ** 39 + 1, 5 * 10 ** 39])
        self.assertEqual(self.parts(10 ** 30, (10 ** 30 - 1, 1)), [10 ** 30 - 1, 1])

    def test_as_plainly(self):
        chance = random.Random(21)
        for _ in range(600):
            most = chance.choice((2, 5, 100, 10 ** 12 - 1))
            weights = [chance.randint(1, most) for _ in range(chance.randint(1, 12))]
            self.parts(chance.randint(0, chance.choice((3, 20, 10 ** 12 - 1))), weights)

    def test_names_need_be_no_party(self):
        self.assertEqual(parted(3, (("publi", 1), ("zed", 2))), [("publi", 1), ("zed", 2)])

    def test_names_of_arguments(self):
        self.assertEqual(parted(shares=BEN, coins=2), [("ben", 2)])

    def test_refused(self):
        for thing in ANYTHING + (-1, True, False, 1.0, "1", None, (1,)):
            self.refused(NoAward, parted, thing, BEN)
        for thing in NO_SHARES:
            self.refused(NoAward, parted, 1, thing)

    def test_what_is_told_is_the_askers_own(self):
        one, two = parted(5, BEN), parted(5, BEN)
        self.assertIs(type(one), list)
        self.assertIs(type(one[0]), tuple)
        one.clear()
        self.assertEqual(two, [("ben", 5)])
        self.assertEqual(parted(5, BEN), two)


class Awards(Asking):
    def test_awards(self):
        self.assertIs(is_award(CASE, AWARD), True)
        for thing in (
            (1, "ann", 0, BEN), (999999999999, "dot", 999999999999, (("ann", 1), ("ben", 999999999999), ("cid", 7))),
            (9, "ben", 1, (("ann", 1),)), (9, "cid", 1, (("ann", 1),)), (9, "ann", 10 ** 30, (("ben", 10 ** 30),)),
        ):
            self.assertIs(is_award(CASE, thing), True, thing)
        self.assertIs(is_award(thing=AWARD, case=CASE), True)

    def test_what_is_none(self):
        for thing in ANYTHING + ((), AWARD[:3], AWARD + (1,), list(AWARD), AWARD[::-1], PAYMENT):
            self.assertIs(is_award(CASE, thing), False)

    def test_odd_parts(self):
        for place in range(4):
            for thing in ODD + ANYTHING:
                self.assertIs(is_award(CASE, changed(AWARD, place, thing)), False, (place, thing))
        self.assertIs(is_award(CASE, (0, "ann", 1, BEN)), False)
        self.assertIs(is_award(CASE, (1, "ann", -1, BEN)), False)

    def test_odd_shares(self):
        for thing in NO_SHARES:
            self.assertIs(is_award(CASE, (3, "dot", 1, thing)), False, thing)

    def test_shares_of_others_than_parties(self):
        for name in ("zed", "jon", "eve"):
            self.assertIs(is_award(CASE, (3, "ann", 1, (("ben", 1), (name, 1)))), False)
            self.assertIs(is_award(CASE, (3, name, 1, BEN)), False)

    def test_the_payee_shares_nothing(self):
        self.assertIs(is_award(CASE, (3, "ben", 1, BEN)), False)
        self.assertIs(is_award(CASE, (3, "ann", 1, (("ann", 1), ("ben", 1)))), False)

    def test_no_case(self):
        for thing in NO_CASES:
            self.refused(NoCase, is_award, thing, AWARD)
            self.refused(NoCase, is_payment, thing, None)


class Payments(Asking):
    def test_payments(self):
        for thing in (PAYMENT, (0, "ann", "ben", 1), (30000, "cid", "ann", 999999999999), (10 ** 20, "ben", "dot", 1)):
            self.assertIs(is_payment(CASE, thing), True, thing)
        self.assertIs(is_payment(thing=PAYMENT, case=CASE), True)

    def test_a_closed_day_may_be_paid_on(self):
        self.assertIs(is_payment(CASE, (5, "ben", "ann", 1)), True)

    def test_what_is_none(self):
        for thing in ANYTHING + ((), PAYMENT[:3], PAYMENT + (1,), list(PAYMENT), PAYMENT[::-1], AWARD):
            self.assertIs(is_payment(CASE, thing), False)

    def test_odd_parts(self):
        for place in range(4):
            for thing in ODD + ANYTHING:
                self.assertIs(is_payment(CASE, changed(PAYMENT, place, thing)), False, (place, thing))

    def test_two_unlike_parties(self):
        for row in (("ann", "ann"), ("ann", "jon"), ("jon", "ann"), ("zed", "ann"), ("ann", "zed"), ("jon", "kay")):
            self.assertIs(is_payment(CASE, (0,) + row + (1,)), False)

    def test_a_sum_from_one_on(self):
        self.assertIs(is_payment(CASE, (0, "ann", "ben", 0)), False)
        self.assertIs(is_payment(CASE, (0, "ann", "ben", -1)), False)


class Owing(Asking):
    def told(self, papers, awards, payments, rows, day=0, case=LONG):
        self.assertEqual(dues(case, papers, awards, payments, day), rows)
        totals = {name: 0 for name, _ in case[1]}
        for one, other, coins in rows:
            totals[one] -= coins
            totals[other] += coins
        self.assertEqual(balance(case, papers, awards, payments, day), sorted(totals.items()))


class Dues(Owing):
    def test_nothing(self):
        self.told([], [], [], [])
        self.told(BASE, [], [], [], 30000)
        self.assertEqual(balance(LONG, [], [], [], 0), [("ann", 0), ("ben", 0), ("cid", 0), ("dot", 0)])

    def test_one_award(self):
        self.told(BASE, [AWARD], [], [("ben", "ann", 100)])
        told = [("ann", 100), ("ben", -100), ("cid", 0), ("dot", 0)]
        self.assertEqual(balance(LONG, BASE, [AWARD], [], 0), told)

    def test_a_shared_award(self):
        award = (3, "cid", 10, (("ann", 1), ("ben", 1), ("dot", 1)))
        self.told(BASE, [award], [], [("ann", "cid", 4), ("ben", "cid", 3), ("dot", "cid", 3)])

    def test_each_award_is_parted_by_itself(self):
        award = (3, "cid", 1, (("ann", 1), ("ben", 1)))
        self.told(BASE, [award, award], [], [("ann", "cid", 2)])

    def test_a_part_of_nothing_is_not_owed(self):
        self.told(BASE, [(3, "cid", 1, (("ann", 1), ("ben", 1)))], [], [("ann", "cid", 1)])
        self.told(BASE, [(3, "cid", 0, (("ann", 1), ("ben", 1)))], [], [])

    def test_several_awards_of_one_ruling(self):
        self.told(BASE, [AWARD, AWARD, (3, "cid", 5, BEN)], [], [("ben", "ann", 200), ("ben", "cid", 5)])

    def test_two_that_owe_each_other_are_netted(self):
        other = (3, "ben", 30, (("ann", 1),))
        self.told(BASE, [AWARD, other], [], [("ben", "ann", 70)])
        self.told(BASE, [other, AWARD, other, other, other], [], [("ann", "ben", 20)])
        self.told(BASE, [AWARD, (3, "ben", 100, (("ann", 9),))], [], [])

    def test_a_ring_is_not_netted(self):
        ring = [(3, "ann", 5, BEN), (3, "ben", 5, (("cid", 1),)), (3, "cid", 5, (("ann", 1),))]
        self.told(BASE, ring, [], [("ann", "cid", 5), ("ben", "ann", 5), ("cid", "ben", 5)])
        self.assertEqual(balance(LONG, BASE, ring, [], 0), [("ann", 0), ("ben", 0), ("cid", 0), ("dot", 0)])

    def test_rows_rise(self):
        pairs = list(itertools.permutations(("ann", "ben", "cid", "dot"), 2))
        awards = [(3, other, 10 + place, ((one, 1),)) for place, (one, other) in enumerate(pairs)]
        told = [
            ("ben", "ann", 3), ("cid", "ann", 5), ("cid", "ben", 3),
            ("dot", "ann", 7), ("dot", "ben", 5), ("dot", "cid", 3),
        ]
        self.told(BASE, awards, [], told)
        self.told(BASE, awards[::-1], [], told)

    def test_payments_count_from_their_day_on(self):
        for day, coins in ((0, 100), (4, 100), (5, 60), (6, 60), (30000, 60)):
            self.told(BASE, [AWARD], [(5, "ben", "ann", 40)], [("ben", "ann", coins)], day)

    def test_a_payment_of_a_closed_day_counts_on_it(self):
        award, payment = (1, "ann", 100, BEN), (9, "ben", "ann", 40)
        papers = [claim(2), ruling(1, 2, ((2, 0),), day=1)]
        for day, coins in ((8, 100), (9, 60), (10, 60)):
            self.told(papers, [award], [payment], [("ben", "ann", coins)], day, CASE)

    def test_all_is_paid(self):
        self.told(BASE, [AWARD], [(0, "ben", "ann", 60), PAYMENT], [])

    def test_what_is_paid_beyond_is_owed_back(self):
        self.told(BASE, [AWARD], [(0, "ben", "ann", 101)], [("ann", "ben", 1)])
        self.told(BASE, [], [PAYMENT], [("ann", "ben", 40)])
        self.told([], [], [PAYMENT, (0, "ann", "ben", 15)], [("ann", "ben", 25)])
        self.told([], [], [PAYMENT, (0, "ann", "ben", 40)], [])

    def test_payments_to_others_pay_nothing(self):
        self.told(BASE, [AWARD], [(0, "ben", "cid", 100)], [("ben", "ann", 100), ("cid", "ben", 100)])
        self.told(BASE, [AWARD], [(0, "ann", "ben", 100)], [("ben", "ann", 200)])

    def test_awards_whose_ruling_is_not_there(self):
        self.told(BASE, [(9, "ann", 100, BEN)], [], [])
        self.told([], [AWARD], [PAYMENT], [("ann", "ben", 40)])
        papers = BASE[:2] + [ruling(3, 1, ((2, 0),), day=7)]
        self.told(papers, [AWARD], [], [], 6)
        self.told(papers, [AWARD], [], [("ben", "ann", 100)], 7)

    def test_awards_by_papers_that_are_no_rulings(self):
        papers = BASE + [unseal(5, 1, ((1, 0),)), strike(6, 5), decision(7, 4, "upheld"), motion(8, 1)]
        for number in (1, 2, 4, 5, 6, 7, 8):
            self.told(papers, [(number, "ann", 100, BEN)], [], [])
        self.told(papers, [AWARD], [], [("ben", "ann", 100)])

    def test_awards_of_refused_rulings(self):
        for row in (ruling(3, 1, ()), ruling(3, 1, ((2, 0),), by="ann"), ruling(3, 9, ((2, 0),))):
            self.told(BASE[:2] + [row], [AWARD], [], [])

    def test_awards_of_rulings_that_stand_no_more(self):
        for more in (
            [strike(5, 3, day=3)], [strike(5, 2, day=3)], [strike(5, 1, day=3)],
            [decision(5, 4, "undone", day=3)], [decision(5, 4, "back", day=3)],
        ):
            self.told(BASE + more, [AWARD], [], [("ben", "ann", 100)], 2)
            self.told(BASE + more, [AWARD], [], [], 3)
            self.told(BASE + more, [AWARD], [PAYMENT], [("ann", "ben", 40)], 3)

    def test_awards_of_rulings_that_stand_again(self):
        papers = BASE + [decision(5, 4), strike(6, 5, day=3), strike(7, 6, day=4)]
        for day, rows in ((2, []), (3, [("ben", "ann", 100)]), (4, [])):
            self.told(papers, [AWARD], [], rows, day)
        self.told(BASE + [decision(5, 4, "upheld")], [AWARD], [], [("ben", "ann", 100)])

    def test_great_sums(self):
        great = 999999999999
        awards = [(3, "ann", great, BEN)] * 50
        self.told(BASE, awards, [(0, "ben", "ann", great)] * 2, [("ben", "ann", 48 * great)])

    def test_what_is_told_may_be_handed_in(self):
        coins = dues(LONG, BASE, [(3, "ann", 999999999999, BEN)] * 50, [], 0)[0][2]
        self.assertGreater(coins, 10 ** 13)
        self.told(BASE, [], [(0, "ben", "ann", coins)], [("ann", "ben", coins)])
        self.assertEqual(parted(coins, (("ben", 1), ("cid", 1)))[0][1], coins // 2 + coins % 2)


class Late(Asking):
    # Filed on day 1, so that the term of two open days ends on day 3.
    papers = [claim(1), ruling(3, 1, ((1, 0),), day=1)]

    def told(self, awards, payments, rows, day, papers=None, case=CASE):
        self.assertEqual(late(case, papers or self.papers, awards, payments, day), rows)

    def test_ahead_of_at_and_behind_the_end_of_the_term(self):
        for day, rows in ((0, []), (1, []), (2, []), (3, []), (4, [("ben", "ann", 100)]), (30000, [("ben", "ann", 100)])):
            self.told([AWARD], [], rows, day)

    def test_the_term_begins_behind_the_filed_day(self):
        # Day 5 is closed: the ruling is filed on day 7, and days 9 and 10 are holidays.
        papers = [claim(1), ruling(3, 1, ((1, 0),), day=5)]
        for day, rows in ((11, []), (12, [("ben", "ann", 100)])):
            self.told([AWARD], [], rows, day, papers)

    def test_a_term_of_days_that_ends_on_a_closed_day(self):
        case = CASE[:3] + (CASE[3][:3] + ((3, "days"),),)
        papers = [claim(1), ruling(3, 1, ((1, 0),), day=3)]
        # Three days behind day 3 is day 6, which is closed, so the term ends on day 7.
        for day, rows in ((6, []), (7, []), (8, [("ben", "ann", 100)])):
            self.told([AWARD], [], rows, day, papers, case)

    def test_a_term_of_nothing(self):
        for unit in ("days", "open"):
            case = CASE[:3] + (CASE[3][:3] + ((0, unit),),)
            for day, rows in ((1, []), (2, [("ben", "ann", 100)])):
                self.told([AWARD], [], rows, day, None, case)

    def test_it_is_the_payment_term(self):
        for place in range(3):
            terms = ((0, "days"),) * place + ((1, "days"),) + ((0, "days"),) * (2 - place) + ((10, "days"),)
            self.told([AWARD], [], [], 11, None, CASE[:3] + (terms,))
            self.told([AWARD], [], [("ben", "ann", 100)], 12, None, CASE[:3] + (terms,))

    def test_payments_up_to_the_day(self):
        payments = [(1, "ben", "ann", 40), (4, "ben", "ann", 50), (5, "ben", "ann", 10)]
        for day, rows in ((3, []), (4, [("ben", "ann", 10)]), (5, [])):
            self.told([AWARD], payments, rows, day)

    def test_a_late_payment_counts(self):
        self.told([AWARD], [(20, "ben", "ann", 99)], [("ben", "ann", 100)], 19)
        self.told([AWARD], [(20, "ben", "ann", 99)], [("ben", "ann", 1)], 20)

    def test_what_is_paid_beyond_is_not_late(self):
        self.told([AWARD], [(4, "ben", "ann", 101)], [], 30)
        self.told([], [PAYMENT], [], 30)

    def test_it_is_not_netted(self):
        awards = [AWARD, (3, "ben", 30, (("ann", 1),))]
        self.told(awards, [], [("ann", "ben", 30), ("ben", "ann", 100)], 4)
        self.told(awards, [(0, "ann", "ben", 30)], [("ben", "ann", 100)], 4)
        self.told(awards, [PAYMENT], [("ann", "ben", 30), ("ben", "ann", 60)], 4)
        # What ann paid to ben takes nothing from what ben is late with, nor adds to it.
        self.told([AWARD], [(0, "ann", "ben", 7)], [("ben", "ann", 100)], 4)

    def test_only_awards_whose_term_is_over(self):
        papers = self.papers + [ruling(4, 1, ((1, 0),), day=2)]
        awards = [AWARD, (4, "ann", 7, BEN)]
        self.told(awards, [], [("ben", "ann", 100)], 4, papers)
        # Day 5 is closed, but it is behind the term's end on day 4.
        self.told(awards, [], [("ben", "ann", 107)], 5, papers)
        # All that was paid counts, by whichever award it is owed.
        self.told(awards, [(0, "ben", "ann", 107)], [], 4, papers)

    def test_awards_that_do_not_count(self):
        for more in ([strike(5, 3, day=7)], [strike(5, 1, day=7)], [appeal(4, 3, day=7), decision(5, 4, day=7)]):
            papers = self.papers + more
            self.told([AWARD], [], [("ben", "ann", 100)], 4, papers)
            self.told([AWARD], [], [], 7, papers)
        self.told([(1, "ann", 5, BEN), (9, "ann", 5, BEN)], [], [], 30)

    def test_rows_rise_by_parts(self):
        award = (3, "cid", 10, (("ann", 1), ("ben", 1), ("dot", 1)))
        told = [("ann", "cid", 4), ("ben", "cid", 3), ("dot", "cid", 3)]
        self.told([award], [], told, 4)
        self.told([award, (3, "ann", 1, (("dot", 1),))], [], told[:2] + [("dot", "ann", 1), told[2]], 4)


class AsPlainly(Asking):
    def some(self, chance, papers):
        """Awards and payments by chance, most of the awards by rulings that are there."""
        names = ["ann", "ben", "cid", "dot"]
        rulings = [row[0] for row in papers if row[3] == "ruling"] + [1, 99]
        awards, payments = [], []
        for _ in range(chance.randint(0, 8)):
            payee, *others = chance.sample(names, chance.randint(2, 4))
            shares = tuple((name, chance.randint(1, 5)) for name in sorted(others))
            awards.append((chance.choice(rulings), payee, chance.choice((0, 1, 10, 100, 101)), shares))
        for _ in range(chance.randint(0, 6)):
            payments.append((chance.randint(0, 25), *chance.sample(names, 2), chance.randint(1, 60)))
        return awards, payments

    def test_many_cases_at_many_days(self):
        chance = random.Random(22)
        many = {ask: 0 for ask in ASKS}
        for seed in range(160):
            papers = Chance(seed).papers(8 + seed % 14)
            case = (CASE, LONG, LONG[:3] + (((20, "days"),) * 3 + ((chance.randint(0, 5), "open"),),))[seed % 3]
            awards, payments = self.some(chance, papers)
            for day in (0, 4, 8, 12, 20, 40):
                for ask in ASKS:
                    told = ask(case, papers, awards, payments, day)
                    self.assertEqual(told, getattr(plain, ask.__name__)(case, papers, awards, payments, day), seed)
                    many[ask] += len([row for row in told if row[-1] != 0])
                self.assertEqual(sum(coins for _, coins in balance(case, papers, awards, payments, day)), 0)
        for ask, count in many.items():
            self.assertGreater(count, 200, ask)

    def test_in_whatever_order_they_came(self):
        papers = BASE + [strike(5, 4)]
        awards = [AWARD, (3, "cid", 7, (("ann", 1), ("ben", 2))), (3, "ben", 5, (("dot", 3),))]
        payments = [PAYMENT, (1, "ann", "cid", 1), (3, "cid", "ben", 9)]
        for ask in ASKS:
            told = ask(LONG, papers, awards, payments, 1)
            for rows in itertools.permutations(papers):
                self.assertEqual(ask(LONG, list(rows), awards, payments, 1), told)
            for rows in itertools.permutations(awards):
                self.assertEqual(ask(LONG, papers, list(rows), payments[::-1], 1), told)

    def test_ninety_papers_and_many_awards(self):
        papers = [claim(1)] + [ruling(number, 1, ((number - 1, 0),)) for number in range(2, 91)]
        names = tuple((name, "asker") for name in "abcdefghijk") + (("z", "answerer"),)
        case = LONG[:1] + (names + (("zz", "asker"),),) + LONG[2:]
        papers = [row[:2] + ("a",) + row[3:] if row[3] == "claim" else row for row in papers]
        shares = tuple((name, place + 1) for place, name in enumerate("abcdefghijk"))
        awards = [(number, "z", 999999999999, shares) for number in range(2, 91)]
        with Soon():
            told = balance(case, papers, awards, [(0, "a", "z", 5)] * 90, 0)
        self.assertEqual(told[11], ("z", 89 * 999999999999 - 450))
        self.assertEqual(sum(coins for _, coins in told), 0)


class Refusals(Asking):
    good = (LONG, BASE, [AWARD], [PAYMENT], 0)

    def test_each_of_anything(self):
        no_awards = BUT_NO_LIST + ((), (AWARD,), AWARD, [AWARD, None], [list(AWARD)], [PAYMENT], [(3, "jon", 1, BEN)])
        no_awards += tuple([changed(AWARD, place, thing)] for place in range(4) for thing in ODD)
        no_payments = BUT_NO_LIST + ((), (PAYMENT,), PAYMENT, [PAYMENT, None], [list(PAYMENT)], [AWARD])
        no_payments += tuple([changed(PAYMENT, place, thing)] for place in range(4) for thing in ODD)
        wrong = ((NoCase, NO_CASES), (NoPaper, NO_PAPERS), (NoAward, no_awards), (NoPayment, no_payments), (NoDay, NO_DAYS))
        for ask in ASKS:
            for place, (error, things) in enumerate(wrong):
                for thing in things:
                    self.refused(error, ask, *changed(self.good, place, thing))

    def test_in_their_order(self):
        errors = (NoCase, NoPaper, NoAward, NoPayment, NoDay)
        bad = (None, [None], [None], [None], -1)
        for ask in ASKS:
            for wrong in range(1, 32):
                places = [place for place in range(5) if wrong >> place & 1]
                given = [bad[place] if place in places else self.good[place] for place in range(5)]
                self.refused(errors[places[0]], ask, *given)

    def test_persons_that_are_no_parties(self):
        for name in ("jon", "zed"):
            for ask in ASKS:
                self.refused(NoAward, ask, LONG, BASE, [(3, name, 1, BEN)], [], 0)
                self.refused(NoAward, ask, LONG, BASE, [(3, "ann", 1, ((name, 1),))], [], 0)
                self.refused(NoPayment, ask, LONG, BASE, [], [(0, name, "ann", 1)], 0)
                self.refused(NoPayment, ask, LONG, BASE, [], [(0, "ann", name, 1)], 0)

    def test_names_of_arguments(self):
        for ask in ASKS:
            told = ask(day=0, payments=[PAYMENT], awards=[AWARD], papers=BASE, case=LONG)
            self.assertEqual(told, ask(*self.good))


class Keeping(Asking):
    def test_what_is_handed_in_stays(self):
        papers, awards, payments = list(BASE), [AWARD, AWARD], [PAYMENT, PAYMENT]
        for ask in ASKS:
            told = ask(LONG, papers, awards, payments, 0)
            self.assertEqual((papers, awards, payments), (BASE, [AWARD, AWARD], [PAYMENT, PAYMENT]))
            for rows in (papers, awards, payments):
                self.assertIsNot(told, rows)

    def test_what_is_told_is_the_askers_own(self):
        for ask in ASKS:
            one, two = ask(LONG, BASE, [AWARD], [], 400000), ask(LONG, BASE, [AWARD], [], 400000)
            self.assertIs(type(one), list)
            self.assertEqual({type(row) for row in one}, {tuple})
            one.clear()
            self.assertEqual(ask(LONG, BASE, [AWARD], [], 400000), two)


if __name__ == "__main__":
    unittest.main()
