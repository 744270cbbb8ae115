"""Points 19 and 20: the first laying, with and without a beginning, and the clash where there is none."""

import itertools
import random
import unittest

from heardhouse.errors import NoLaying, NoMatter, NoPlan
from heardhouse.hearings import clash, is_laying, lay, lay_more
from tests import plain
from tests.asking import BUT_NO_LIST, Asking, Soon, steps_of
from tests.house import ANYTHING

NAMES = "abcdefghij"
PLAN = ((), 2, 4)
NO_PLANS = ANYTHING + (
    (), ((), 2), ((), 2, 4, 1), [(), 2, 4], ([], 2, 4), ((), 0, 4), ((), 2, 0), ((), -1, 4), ((), True, 4),
    ((), 2, True), ((), "2", 4), ((), 2, 4.0), ((1, 0), 2, 4), ((0, 0), 2, 4), (None, 2, 4), (2, 4, ()), ((), None, 4),
)


def matter(name, people, length=1, first=0, last=None):
    return (name, tuple(sorted(people)), length, first, first if last is None else last)


def one_with(place, thing):
    row = matter("a", ["ann"])
    return row[:place] + (thing,) + row[place + 1:]


NO_MATTERS = BUT_NO_LIST + (
    (), (matter("a", "p"),), matter("a", "p"), [()], [None], [matter("a", "p"), None], [list(matter("a", "p"))],
    [matter("a", "p")[:4]], [matter("a", "p") + (1,)], [matter("a", "p"), matter("a", "q")],
    [matter("a", "p"), matter("b", "p"), matter("a", "p")], {0: matter("a", "p")},
    [one_with(0, "")], [one_with(0, "A")], [one_with(0, "public")], [one_with(0, "abcdefghi")], [one_with(0, None)],
    [one_with(0, 1)], [one_with(0, ["a"])], [one_with(1, ())], [one_with(1, ["ann"])], [one_with(1, "ann")],
    [one_with(1, ("ben", "ann"))], [one_with(1, ("ann", "ann"))], [one_with(1, ("public",))], [one_with(1, (1,))],
    [one_with(2, 0)], [one_with(2, -1)], [one_with(2, True)], [one_with(2, 1.0)], [one_with(2, "1")],
    [one_with(3, 1)], [one_with(3, -1)], [one_with(3, False)], [one_with(3, None)], [one_with(4, -1)],
    [one_with(4, True)], [one_with(4, "0")], [one_with(3, 8)[:4] + (7,)],
)


class First(Asking):
    def told(self, plan, matters, rows):
        """The first laying is told, by days, slots and rooms, and it is one; nothing clashes."""
        wanted = [(row[0],) + spot for row, spot in zip(matters, rows)]
        self.assertEqual(len(rows), len(matters))
        self.assertEqual(lay(plan, matters), wanted)
        self.assertEqual(plain.lay_more(plan, matters, []), wanted)
        self.assertIs(is_laying(plan, matters, wanted), True)
        self.assertIsNone(clash(plan, matters))

    def none(self, plan, matters, names):
        self.assertIsNone(lay(plan, matters))
        self.assertEqual(clash(plan, matters), list(names))

    def test_no_matters(self):
        self.told(PLAN, [], [])

    def test_one(self):
        self.told(PLAN, [matter("a", "p")], [(0, 0, 0)])
        self.told(PLAN, [matter("a", "p", 4, 2, 9)], [(2, 0, 0)])

    def test_whose_people_are_unlike_side_by_side(self):
        self.told(PLAN, [matter("a", "p", 4), matter("b", "q", 4)], [(0, 0, 0), (0, 0, 1)])

    def test_whose_people_are_shared_one_behind_the_other(self):
        self.told(PLAN, [matter("a", "pq", 2), matter("b", "qr", 2)], [(0, 0, 0), (0, 2, 0)])
        self.told(PLAN, [matter("a", "pq", 1), matter("b", "qr", 2)], [(0, 0, 0), (0, 1, 0)])

    def test_in_one_room_one_behind_the_other(self):
        self.told(((), 1, 4), [matter("a", "p", 2), matter("b", "q", 2)], [(0, 0, 0), (0, 2, 0)])

    def test_on_another_day_where_the_first_is_full(self):
        self.told(PLAN, [matter("a", "p", 3, 0, 3), matter("b", "p", 2, 0, 3)], [(0, 0, 0), (1, 0, 0)])
        self.told(((), 1, 2), [matter(name, name, 2, 0, 4) for name in "abc"], [(0, 0, 0), (1, 0, 0), (2, 0, 0)])

    def test_a_day_goes_ahead_of_slots_and_rooms(self):
        self.told(((), 2, 2), [matter("a", "p", 1, 0, 1), matter("b", "p", 1, 0, 1)], [(0, 0, 0), (0, 1, 0)])

    def test_a_slot_goes_ahead_of_rooms(self):
        self.told(((), 2, 2), [matter("a", "p", 1), matter("b", "q", 1)], [(0, 0, 0), (0, 0, 1)])

    def test_matter_by_matter(self):
        self.told(((), 1, 2), [matter("a", "p", 1), matter("b", "q", 1)], [(0, 0, 0), (0, 1, 0)])
        self.told(((), 1, 2), [matter("b", "q", 1), matter("a", "p", 1)], [(0, 0, 0), (0, 1, 0)])

    def test_an_earlier_one_gives_way_only_where_it_must(self):
        self.told(((), 1, 2), [matter("a", "p", 2, 0, 1), matter("b", "q", 1)], [(1, 0, 0), (0, 0, 0)])
        self.told(((), 1, 3), [matter("a", "p", 1, 0, 1), matter("b", "q", 3)], [(1, 0, 0), (0, 0, 0)])
        self.told(((), 1, 3), [matter("a", "p", 1, 0, 1), matter("b", "q", 2)], [(0, 0, 0), (0, 1, 0)])

    def test_a_slot_between_others(self):
        matters = [matter("a", "p", 2), matter("b", "pq", 1), matter("c", "q", 2)]
        self.told(((), 2, 5), matters, [(0, 0, 0), (0, 2, 0), (0, 0, 1)])
        self.told(((), 1, 5), matters, [(0, 0, 0), (0, 2, 0), (0, 3, 0)])

    def test_an_earlier_matter_begins_later_for_a_later_one(self):
        matters = [matter("a", "p", 1), matter("b", "pq", 1), matter("c", "p", 2), matter("d", "q", 3)]
        self.told(((), 2, 4), matters, [(0, 0, 0), (0, 3, 0), (0, 1, 0), (0, 0, 1)])

    def test_no_room_is_parted_that_a_later_one_needs_whole(self):
        matters = [matter("a", "p", 1), matter("b", "p", 1), matter("c", "q", 2), matter("d", "r", 2)]
        self.told(((), 2, 3), matters, [(0, 0, 0), (0, 2, 1), (0, 0, 1), (0, 1, 0)])

    def test_closed_days_and_holidays(self):
        self.told(PLAN, [matter("a", "p", 1, 5, 7)], [(7, 0, 0)])
        self.told(((7, 8), 2, 4), [matter("a", "p", 1, 4, 9), matter("b", "p", 4, 4, 9)], [(4, 0, 0), (9, 0, 0)])
        self.none(PLAN, [matter("a", "p", 1, 5, 6)], "a")
        self.none(((7, 8), 2, 4), [matter("a", "p", 1, 5, 8)], "a")

    def test_not_behind_the_last_day(self):
        self.told(PLAN, [matter("a", "p", 4, 0, 1), matter("b", "p", 4, 0, 1)], [(0, 0, 0), (1, 0, 0)])
        self.none(PLAN, [matter(name, "p", 4, 0, 1) for name in "abc"], "abc")
        self.none(PLAN, [matter("a", "p", 4, 4, 6), matter("b", "p", 1, 4, 6)], "ab")

    def test_longer_than_a_day(self):
        self.none(PLAN, [matter("a", "p", 5, 0, 9)], "a")
        self.none(PLAN, [matter("a", "p", 999999999999, 0, 9)], "a")
        self.none(PLAN, [matter("b", "q"), matter("a", "p", 5, 0, 9)], "a")

    def test_a_matter_and_a_person_may_be_called_alike(self):
        self.told(PLAN, [matter("a", ["b"], 4), matter("b", ["a"], 4)], [(0, 0, 0), (0, 0, 1)])

    def test_great_numbers(self):
        matters = [matter("a", "p", 8, 0, 999999999999), matter("b", "p", 8, 0, 999999999999)]
        with Soon():
            self.assertEqual(lay(((), 999999999999, 8), matters), [("a", 0, 0, 0), ("b", 1, 0, 0)])
            self.assertEqual(lay(((), 4, 999999999999), matters), [("a", 0, 0, 0), ("b", 0, 8, 0)])
            self.assertIsNone(clash(((), 999999999999, 999999999999), matters))


class Clash(Asking):
    def told(self, plan, matters, names):
        self.assertEqual(clash(plan, matters), list(names))
        self.assertEqual(plain.clash(plan, matters), list(names))
        self.assertIsNone(lay(plan, matters))

    def test_none_where_there_is_a_laying(self):
        self.assertIsNone(clash(PLAN, []))
        self.assertIsNone(clash(PLAN, [matter("a", "p")]))

    def test_two_that_share_a_person(self):
        self.told(PLAN, [matter("a", "p", 3), matter("b", "q", 3), matter("c", "p", 2)], "ac")

    def test_three_that_share_rooms(self):
        self.told(PLAN, [matter("a", "p", 3), matter("b", "q", 3), matter("c", "r", 3), matter("d", "s", 1)], "abc")

    def test_the_fewest(self):
        matters = [matter(name, "p", 2) for name in "abc"] + [matter("d", "q", 3), matter("e", "q", 2)]
        self.told(((), 4, 4), matters, "de")
        self.told(((), 4, 4), matters + [matter("f", "s", 5)], "f")

    def test_of_as_few_the_first_by_places(self):
        matters = [matter("d", "q", 3), matter("c", "p", 3), matter("b", "p", 2), matter("a", "q", 2)]
        self.told(((), 4, 4), matters, "da")
        self.told(((), 4, 4), [matter(name, "p", 2) for name in "zyx"] + [matter("a", "p", 2)], "zyx")
        self.told(((), 4, 4), [matter("b", "p", 5), matter("a", "p", 5)], "b")
        matters = [matter("a", "p", 1), matter("b", "q", 4), matter("c", "pq", 4), matter("d", "pq", 4)]
        self.told(((), 9, 4), matters, "ac")

    def test_names_in_the_matters_order(self):
        self.told(((), 1, 4), [matter("z", "p", 3), matter("m", "q", 1), matter("a", "r", 2)], "za")

    def test_days_apart_do_not_clash(self):
        matters = [matter("a", "p", 4, 0, 0), matter("b", "p", 4, 1, 1), matter("c", "p", 4, 0, 1)]
        self.told(PLAN, matters, "abc")

    def test_time_for_each_but_no_room_for_all(self):
        matters = [matter("a", "p", 2), matter("b", "q", 2), matter("c", "r", 3), matter("d", "s", 2)]
        self.told(((), 2, 4), matters, "abcd")


class More(Asking):
    matters = [matter("a", "p", 1, 0, 1), matter("b", "q", 2, 0, 1), matter("c", "pq", 2, 0, 1)]

    def told(self, laying, rows, plan=PLAN, matters=None):
        matters = matters or self.matters
        kept = list(laying)
        told = lay_more(plan, matters, laying)
        self.assertEqual(told, rows)
        self.assertEqual(laying, kept)
        self.assertEqual(plain.lay_more(plan, matters, laying), rows)

    def test_from_none(self):
        self.told([], [("a", 0, 0, 0), ("b", 0, 0, 1), ("c", 0, 2, 0)])
        self.assertEqual(lay_more(PLAN, self.matters, []), lay(PLAN, self.matters))
        self.assertEqual(lay_more(PLAN, [], []), [])

    def test_from_the_first_ones_as_told(self):
        self.told([("a", 0, 3, 1)], [("a", 0, 3, 1), ("b", 0, 0, 0), ("c", 1, 0, 0)])
        self.told([("a", 1, 0, 0)], [("a", 1, 0, 0), ("b", 0, 0, 0), ("c", 0, 2, 0)])
        self.told([("a", 0, 0, 0), ("b", 1, 2, 1)], [("a", 0, 0, 0), ("b", 1, 2, 1), ("c", 0, 1, 0)])
        self.told([("a", 0, 3, 0), ("b", 0, 1, 1)], [("a", 0, 3, 0), ("b", 0, 1, 1), ("c", 1, 0, 0)])

    def test_from_all(self):
        laying = [("a", 0, 3, 1), ("b", 1, 2, 0), ("c", 0, 1, 1)]
        self.told(laying, laying)
        self.assertIsNot(lay_more(PLAN, self.matters, laying), laying)

    def test_none_where_there_is_none_behind_it(self):
        matters = [matter("a", "p", 2), matter("b", "p", 3)]
        self.assertEqual(lay(((), 1, 5), matters), [("a", 0, 0, 0), ("b", 0, 2, 0)])
        self.told([("a", 0, 1, 0)], None, ((), 1, 5), matters)
        self.told([("a", 0, 3, 0)], [("a", 0, 3, 0), ("b", 0, 0, 0)], ((), 1, 5), matters)

    def test_a_begin_that_is_no_sum_of_lengths(self):
        matters = [matter("a", "p", 2), matter("b", "p", 3)]
        self.told([("a", 0, 1, 0)], [("a", 0, 1, 0), ("b", 0, 3, 0)], ((), 1, 8), matters)

    def test_nobody_changes_rooms(self):
        matters = [matter("a", "p", 1), matter("b", "q", 1), matter("c", "r", 3)]
        self.told([("a", 0, 0, 0), ("b", 0, 2, 1)], None, ((), 2, 3), matters)
        rows = [("a", 0, 0, 0), ("b", 0, 2, 0), ("c", 0, 0, 1)]
        self.told(rows[:2], rows, ((), 2, 3), matters)

    def test_a_room_beyond_the_first_ones(self):
        matters = [matter("a", "p", 2), matter("b", "q", 2), matter("c", "r", 4)]
        self.told([("a", 0, 0, 8)], [("a", 0, 0, 8), ("b", 0, 0, 0), ("c", 0, 0, 1)], ((), 9, 4), matters)

    def test_a_room_is_left_for_what_comes_behind(self):
        matters = [matter("a", "pq", 1), matter("b", "r", 1), matter("c", "p", 1), matter("d", "q", 3)]
        rows = [("a", 0, 0, 0), ("b", 0, 3, 1), ("c", 0, 1, 1), ("d", 0, 1, 0)]
        self.told(rows[:2], rows, ((), 2, 4), matters)

    def test_no_laying(self):
        good = [("a", 0, 0, 0), ("b", 0, 0, 1), ("c", 0, 2, 0)]
        for thing in BUT_NO_LIST + (
            tuple(good), good[0], [good[1]], good[::-1], good + [("d", 0, 0, 0)], good + [good[0]], [None],
            [good[0], None], [("a", 0, 0)], [("a", 0, 0, 0, 0)], [["a", 0, 0, 0]], [("b", 0, 0, 0)],
            [("a", 2, 0, 0)], [("a", 0, 4, 0)], [("a", 0, 0, 2)], [("a", -1, 0, 0)], [("a", 0, -1, 0)],
            [("a", 0, 0, -1)], [("a", False, 0, 0)],
            [("a", 0, False, 0)], [("a", 0, 0, False)], [("a", 0.0, 0, 0)], [("a", 0, 0, 0), ("b", 0, 0, 0)],
            good[:2] + [("c", 0, 1, 0)], {0: good[0]}, [()],
        ):
            self.refused(NoLaying, lay_more, PLAN, self.matters, thing)
        self.refused(NoLaying, lay_more, PLAN, [], [("a", 0, 0, 0)])


class IsLaying(Asking):
    matters = [matter("a", "p", 2, 0, 7), matter("b", "pq", 1, 1, 7)]
    good = [("a", 1, 2, 1), ("b", 1, 1, 1)]

    def told(self, right, rows, plan=PLAN, matters=None):
        self.assertIs(is_laying(plan, self.matters if matters is None else matters, rows), right, rows)

    def test_a_good_one(self):
        self.told(True, self.good)
        self.told(True, [("a", 7, 0, 0), ("b", 4, 3, 1)])
        self.told(True, [], matters=[])

    def test_anything(self):
        for thing in ANYTHING:
            self.told(False, thing)
            self.told(False, [thing, thing])
            self.told(False, [self.good[0], thing])
            for place in range(4):
                row = self.good[1]
                self.told(False, [self.good[0], row[:place] + (thing,) + row[place + 1:]])
            self.told(thing == [] if isinstance(thing, list) else False, thing, matters=[])

    def test_forms(self):
        for rows in (
            tuple(self.good), self.good[::-1], self.good[:1], self.good + self.good[:1],
            [list(row) for row in self.good], [row[:3] for row in self.good], [row + (0,) for row in self.good],
            [self.good[0], ("B", 1, 1, 1)], [self.good[0], ("a", 1, 1, 1)], [], {0: self.good[0], 1: self.good[1]},
        ):
            self.told(False, rows)

    def test_truths_and_texts_are_no_numbers(self):
        for row in (("b", True, 1, 1), ("b", 1, True, 1), ("b", 1, 1, True), ("b", 1.0, 1, 1), ("b", "1", 1, 1)):
            self.told(False, [self.good[0], row])

    def test_days(self):
        self.told(True, [("a", 0, 0, 0), ("b", 1, 0, 0)])
        self.told(False, [("a", 0, 0, 0), ("b", 0, 2, 0)])
        self.told(False, [("a", 8, 0, 0), ("b", 1, 0, 0)])
        self.told(False, [("a", 5, 0, 0), ("b", 1, 0, 0)])
        self.told(False, [("a", 0, 0, 0), ("b", 6, 0, 0)])
        self.told(False, [("a", 0, 0, 0), ("b", 1, 0, 0)], ((1,), 2, 4))
        self.told(True, [("a", 0, 0, 0), ("b", 1, 0, 0)], ((2,), 2, 4))

    def test_slots_and_rooms(self):
        self.told(True, [("a", 0, 2, 1), ("b", 1, 3, 1)])
        self.told(False, [("a", 0, 3, 1), ("b", 1, 3, 1)])
        self.told(False, [("a", 0, 2, 1), ("b", 1, 4, 1)])
        self.told(False, [("a", 0, 2, 2), ("b", 1, 3, 1)])
        self.told(False, [("a", 0, -1, 1), ("b", 1, 3, 1)])
        self.told(False, [("a", 0, 2, -1), ("b", 1, 3, 1)])

    def test_shared_people(self):
        for slot, right in ((0, True), (1, False), (2, False), (3, True)):
            self.told(right, [("a", 1, 1, 0), ("b", 1, slot, 1)])
        self.told(True, [("a", 1, 1, 0), ("b", 2, 1, 1)])

    def test_shared_rooms(self):
        matters = [matter("a", "p", 2), matter("b", "q", 1)]
        for slot, right in ((0, True), (1, False), (2, False), (3, True)):
            self.told(right, [("a", 0, 1, 0), ("b", 0, slot, 0)], matters=matters)
            self.told(True, [("a", 0, 1, 0), ("b", 0, slot, 1)], matters=matters)

    def test_each_two_of_many(self):
        matters = [matter(name, name, 1) for name in "abcd"]
        good = [("a", 0, 0, 0), ("b", 0, 1, 0), ("c", 0, 2, 0), ("d", 0, 3, 0)]
        self.told(True, good, matters=matters)
        for one, other in itertools.permutations(range(4), 2):
            rows = list(good)
            rows[one] = (NAMES[one], 0, other, 0)
            self.told(False, rows, matters=matters)


class Chance(Asking):
    """As trying all that is would tell, on plans and matters by chance."""

    def drawn(self, chance):
        slots = chance.randint(1, 5)
        plan = (tuple(sorted(chance.sample(range(8), chance.randint(0, 3)))), chance.randint(1, 3), slots)
        matters = []
        for name in NAMES[:chance.randint(1, 4)]:
            first = chance.randint(0, 5)
            people = chance.sample("pqrst", chance.randint(1, 2))
            length = chance.randint(1, min(4, slots + (chance.random() < 0.1)))
            matters.append(matter(name, people, length, first, first + chance.choice((0, 0, 0, 1, 2))))
        return plan, matters

    def begun(self, chance, plan, matters):
        """A laying of some first matters, by chance."""
        laying = []
        for row in matters[:chance.randint(0, len(matters))]:
            spots = itertools.product(range(row[3], row[4] + 1), range(plan[2]), range(plan[1]))
            rows = [laying + [(row[0],) + spot] for spot in spots]
            rows = [longer for longer in rows if plain.is_laying(plan, matters, longer)]
            if not rows:
                break
            laying = chance.choice(rows)
        return laying

    def test_as_plainly(self):
        none = more_none = 0
        for seed in range(700):
            chance = random.Random(seed)
            plan, matters = self.drawn(chance)
            told = lay(plan, matters)
            self.assertEqual(told, plain.lay_more(plan, matters, []), (plan, matters))
            self.assertEqual(clash(plan, matters), plain.clash(plan, matters), (plan, matters))
            self.assertEqual(told is None, clash(plan, matters) is not None)
            none += told is None
            laying = self.begun(chance, plan, matters)
            self.assertIs(is_laying(plan, matters[:len(laying)], laying), True)
            more = lay_more(plan, matters, laying)
            self.assertEqual(more, plain.lay_more(plan, matters, laying), (plan, matters, laying))
            more_none += more is None and told is not None
            if more is not None:
                self.assertIs(is_laying(plan, matters, more), True)
        self.assertGreater(none, 100)
        self.assertGreater(700 - none, 100)
        self.assertGreater(more_none, 5)

    def test_full_rooms_on_one_day(self):
        told = []
        for seed in range(400):
            chance = random.Random(seed)
            plan = ((), 2, chance.randint(3, 5))
            matters = [matter(name, chance.choice("ppqrs"), chance.randint(1, plan[2] - 1)) for name in NAMES[:4]]
            told.append(lay(plan, matters))
            self.assertEqual(told[-1], plain.lay_more(plan, matters, []), (plan, matters))
        self.assertGreater(told.count(None), 50)
        self.assertGreater(400 - told.count(None), 50)

    def test_is_laying_as_plainly(self):
        right = wrong = 0
        for seed in range(400):
            chance = random.Random(seed)
            plan, matters = self.drawn(chance)
            for _ in range(20):
                rows = [
                    (row[0], chance.randint(row[3], row[4] + 1), chance.randint(0, plan[2]), chance.randint(0, plan[1]))
                    for row in matters
                ]
                told = is_laying(plan, matters, rows)
                self.assertIs(told, plain.is_laying(plan, matters, rows))
                right, wrong = right + told, wrong + (not told)
        self.assertGreater(right, 200)
        self.assertGreater(wrong, 300)


class InTime(Asking):
    """The limits of point 2: six matters, ten days, four rooms, eight slots."""

    def told(self, plan, matters, names):
        with Soon(20):
            laying, least = lay(plan, matters), clash(plan, matters)
            more = lay_more(plan, matters, [])
        self.assertEqual(laying, more)
        self.assertEqual(least, names and list(names))
        if names:
            self.assertIsNone(laying)
        else:
            self.assertIs(is_laying(plan, matters, laying), True)

    def test_six_of_which_one_is_too_long(self):
        for place in range(6):
            matters = [matter(name, "p", 8, 0, 9) for name in NAMES[:6]]
            matters[place] = matter(NAMES[place], "p", 9, 0, 9)
            self.told(((), 4, 8), matters, NAMES[place])

    def test_six_of_one_person_on_five_open_days(self):
        for length in (5, 6, 7, 8):
            matters = [matter(name, "p", length, 0, 9) for name in NAMES[:6]]
            self.told(((7, 8, 9), 4, 8), matters, NAMES[:6])
            self.told(((7, 8), 4, 8), matters, None)

    def test_six_of_which_the_last_has_no_open_day(self):
        matters = [matter(name, name, 8, 0, 9) for name in NAMES[:5]] + [matter("f", "f", 1, 5, 6)]
        self.told(((), 4, 8), matters, "f")

    def test_six_on_few_days(self):
        self.told(((), 4, 8), [matter(name, "p", 3, 0, 1) for name in NAMES[:6]], NAMES[:5])
        self.told(((), 4, 8), [matter(name, "p", 4, 0, 2) for name in NAMES[:6]], None)
        self.told(((), 4, 8), [matter(name, "p", 2) for name in NAMES[:6]], NAMES[:5])
        self.told(((), 4, 8), [matter(name, name, 5) for name in NAMES[:6]], NAMES[:5])
        self.told(((), 2, 8), [matter(name, name, 3, 0, 0) for name in NAMES[:6]], NAMES[:5])
        self.told(((), 4, 8), [matter(name, "p", 1, 0, 0) for name in NAMES[:6]], None)

    def test_two_persons_who_share_one_day(self):
        people = ("p", "p", "pq", "q", "q", "pr")
        lengths = (3, 2, 2, 3, 3, 2)
        matters = [matter(name, who, length) for name, who, length in zip(NAMES, people, lengths)]
        self.told(((), 4, 8), matters, "abcf")

    def test_many_persons_by_chance(self):
        chance = random.Random(19)
        for _ in range(150):
            rooms, slots = chance.randint(1, 4), chance.randint(5, 8)
            plan = (tuple(sorted(chance.sample(range(14), chance.randint(0, 12)))), rooms, slots)
            matters = []
            for name in NAMES[:6]:
                first = chance.randint(0, 3)
                people = chance.sample("pqrstu"[:chance.randint(2, 6)], chance.randint(1, 2))
                last = first + chance.choice((0, 0, 1, 2, 9))
                matters.append(matter(name, people, chance.randint(1, slots), first, last))
            with Soon(20):
                told = clash(plan, matters)
                self.assertEqual(lay(plan, matters) is None, told is not None)
            if told is not None:
                # A least set is one of which each lesser one can be laid.
                chosen = [row for row in matters if row[0] in told]
                self.assertEqual([row[0] for row in chosen], told)
                self.assertIsNone(lay(plan, chosen))
                for row in chosen:
                    self.assertIsNotNone(lay(plan, [other for other in chosen if other != row]))

    def test_steps_where_six_are_too_many_by_little(self):
        plans = (((1, 3), 3, 8), ((), 3, 7), ((1, 7, 8, 11, 13), 4, 8), ((13,), 3, 8))
        people = (("uv", "qsw", "r", "qv", "tvw", "p"), "pppppp", ("q", "ps", "p", "pq", "ps", "pr"), "pppppp")
        lengths = ((3, 2, 2, 2, 6, 3), (1, 1, 2, 2, 1, 1), (1, 2, 2, 2, 1, 2), (1, 1, 1, 2, 1, 4))
        lasts = ((0, 0, 0, 0, 9, 0), (0, 0, 0, 9, 0, 0), (1, 1, 0, 2, 0, 2), (1, 0, 0, 0, 2, 2))
        for plan, *rows in zip(plans, people, lengths, lasts):
            matters = [matter(name, who, length, 0, last) for name, who, length, last in zip(NAMES, *rows)]
            for ask in (lay, clash):
                self.assertLess(steps_of(ask, plan, matters), 400000)

    def test_somewhat_more_than_the_limits(self):
        self.told(((), 5, 10), [matter(name, "p", 5, 0, 2) for name in NAMES[:8]], NAMES[:7])
        self.told(((), 4, 8), [matter(name, "p", 8, 0, 13) for name in NAMES[:10]], None)


class Refusals(Asking):
    good = [matter("a", "p"), matter("b", "q")]

    def test_no_plan(self):
        for thing in NO_PLANS:
            for ask in (lay, clash):
                self.refused(NoPlan, ask, thing, self.good)
                self.refused(NoPlan, ask, thing, None)
            for ask in (lay_more, is_laying):
                self.refused(NoPlan, ask, thing, self.good, [])
                self.refused(NoPlan, ask, thing, None, None)

    def test_no_matter(self):
        for thing in NO_MATTERS:
            for ask in (lay, clash):
                self.refused(NoMatter, ask, PLAN, thing)
            for ask in (lay_more, is_laying):
                self.refused(NoMatter, ask, PLAN, thing, [])
                self.refused(NoMatter, ask, PLAN, thing, None)

    def test_odd_things_in_each_place_of_a_matter(self):
        for thing in ANYTHING:
            # Some of the texts are names.
            for place in range(isinstance(thing, str), 5):
                for ask in (lay, clash):
                    self.refused(NoMatter, ask, PLAN, [one_with(place, thing)])

    def test_names_of_arguments(self):
        told = lay(matters=self.good, plan=PLAN)
        self.assertEqual(told, [("a", 0, 0, 0), ("b", 0, 0, 1)])
        self.assertEqual(lay_more(laying=told[:1], matters=self.good, plan=PLAN), told)
        self.assertIsNone(clash(matters=self.good, plan=PLAN))
        self.assertIs(is_laying(thing=told, matters=self.good, plan=PLAN), True)


class Keeping(Asking):
    def test_what_is_told_is_the_askers_own(self):
        matters = [matter("a", "p", 3), matter("b", "p", 3)]
        laying = [("a", 0, 1, 0)]
        plan = ((), 2, 7)
        asks = (
            lambda: lay(plan, matters), lambda: lay_more(plan, matters, laying),
            lambda: lay_more(plan, matters[:1], laying), lambda: lay(plan, []), lambda: clash(((), 2, 5), matters),
        )
        for ask in asks:
            one, two = ask(), ask()
            self.assertIs(type(one), list)
            self.assertEqual(one, two)
            self.assertIsNot(one, two)
            one.append(None)
            self.assertEqual(ask(), two)
        self.assertEqual(matters, [matter("a", "p", 3), matter("b", "p", 3)])
        self.assertEqual(laying, [("a", 0, 1, 0)])

    def test_a_list_that_is_changed_later_changes_nothing_told(self):
        matters = [matter("a", "p"), matter("b", "p")]
        told = lay(PLAN, matters)
        matters.clear()
        self.assertEqual(told, [("a", 0, 0, 0), ("b", 0, 1, 0)])
        self.assertEqual(lay(PLAN, matters), [])

    def test_kinds_of_what_is_told(self):
        for row in lay(PLAN, [matter("a", "p"), matter("b", "p")]):
            self.assertIs(type(row), tuple)
            self.assertEqual([type(part) for part in row], [str, int, int, int])


if __name__ == "__main__":
    unittest.main()
