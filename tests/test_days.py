import unittest

from heardhouse.days import (
    end, is_calendar, is_day, is_open, is_term, last_open, next_open, within,
)
from heardhouse.errors import NoCalendar, NoDay, NoTerm
from tests import plain
from tests.house import ANYTHING

GREAT = 999999999999
TERM = (3, "days")
NO_CALENDARS = (
    (1, 0), (0, 2, 1), (1, 1), (0, 2, 2), (-1,), (-1, 0), (True,), (0, True), (False, 1), [0, 1], [],
    (0, "1"), (1.0,), (0, None), ((0,),), 3, None,
)
NO_DAYS = (-1, True, False, "0", 0.0, None, (0,), [0])
NO_TERMS = (
    (-1, "days"), (True, "days"), (1, "day"), (1, "weeks"), (1, "Open"), (1, ""), (1, None),
    (1, ["days"]), ("1", "days"), (1.0, "days"), [1, "days"], ("days", 1), (1,), (), (1, "days", 1),
    (None, "days"), None, 3, "days", (1, b"days"),
)


class Forms(unittest.TestCase):
    def test_good_calendars(self):
        for thing in ((), (0,), (0, 1, 2), (5, 6, 700), (29999, 30000), (GREAT,)):
            self.assertIs(is_calendar(thing), True, thing)

    def test_what_is_no_calendar(self):
        for thing in NO_CALENDARS + ANYTHING:
            self.assertIs(is_calendar(thing), False, thing)

    def test_good_days(self):
        for thing in (0, 1, 6, 30000, GREAT):
            self.assertIs(is_day(thing), True, thing)

    def test_what_is_no_day(self):
        for thing in NO_DAYS + ANYTHING + ((),):
            self.assertIs(is_day(thing), False, thing)

    def test_good_terms(self):
        for thing in ((0, "days"), (0, "open"), (1, "days"), (400, "open"), (GREAT, "days")):
            self.assertIs(is_term(thing), True, thing)

    def test_what_is_no_term(self):
        for thing in NO_TERMS + ANYTHING:
            self.assertIs(is_term(thing), False, thing)


class Open(unittest.TestCase):
    def test_the_week(self):
        told = [is_open((), day) for day in range(14)]
        self.assertEqual(told, ([True] * 5 + [False] * 2) * 2)
        for one in told:
            self.assertIsInstance(one, bool)

    def test_holidays_are_closed(self):
        self.assertIs(is_open((1, 3), 1), False)
        self.assertIs(is_open((1, 3), 2), True)
        self.assertIs(is_open((1, 3), 3), False)

    def test_a_holiday_on_a_weekend_changes_nothing(self):
        self.assertIs(is_open((5, 6), 5), False)
        self.assertIs(is_open((5, 6), 7), True)

    def test_next_open(self):
        self.assertEqual(next_open((), 0), 0)
        self.assertEqual(next_open((), 4), 4)
        self.assertEqual(next_open((), 5), 7)
        self.assertEqual(next_open((), 6), 7)
        self.assertEqual(next_open((0,), 0), 1)
        self.assertEqual(next_open((4,), 4), 7)
        self.assertEqual(next_open((4, 7), 4), 8)
        self.assertEqual(next_open((4, 5, 6, 7, 8, 9, 10, 11), 3), 3)
        self.assertEqual(next_open((4, 5, 6, 7, 8, 9, 10, 11), 4), 14)
        self.assertEqual(next_open((3,), 4), 4)
        self.assertEqual(next_open(tuple(range(20)), 0), 21)

    def test_last_open(self):
        self.assertEqual(last_open((), 0), 0)
        self.assertEqual(last_open((), 4), 4)
        self.assertEqual(last_open((), 5), 4)
        self.assertEqual(last_open((), 6), 4)
        self.assertEqual(last_open((), 7), 7)
        self.assertEqual(last_open((7,), 7), 4)
        self.assertEqual(last_open((3, 4, 7), 7), 2)
        self.assertEqual(last_open((8,), 7), 7)
        self.assertEqual(last_open((5, 6, 7), 7), 4)

    def test_last_open_is_none_where_all_is_closed(self):
        self.assertIsNone(last_open((0,), 0))
        self.assertIsNone(last_open((0, 1), 1))
        self.assertIsNone(last_open((0, 1, 2, 3, 4), 6))
        self.assertIsNone(last_open(tuple(range(20)), 20))
        self.assertEqual(last_open((1, 2), 2), 0)

    def test_many_holidays(self):
        row = tuple(range(100, 30000))
        self.assertEqual(next_open(row, 100), 30002)
        self.assertEqual(last_open(row, 29999), 99)
        self.assertEqual(end(row, 98, (2, "open")), 30002)
        self.assertEqual(end(row, 99, (1, "days")), 30002)


class Ends(unittest.TestCase):
    def test_days(self):
        self.assertEqual(end((), 0, (0, "days")), 0)
        self.assertEqual(end((), 0, (4, "days")), 4)
        self.assertEqual(end((), 0, (5, "days")), 7)
        self.assertEqual(end((), 6, (0, "days")), 7)
        self.assertEqual(end((7,), 0, (5, "days")), 8)
        self.assertEqual(end((1, 2), 0, (4, "days")), 4)

    def test_open_days(self):
        self.assertEqual(end((), 0, (1, "open")), 1)
        self.assertEqual(end((), 0, (4, "open")), 4)
        self.assertEqual(end((), 0, (5, "open")), 7)
        self.assertEqual(end((), 5, (1, "open")), 7)
        self.assertEqual(end((), 6, (2, "open")), 8)
        self.assertEqual(end((0,), 0, (1, "open")), 1)
        self.assertEqual(end((1, 2), 0, (1, "open")), 3)
        self.assertEqual(end((7, 8), 4, (1, "open")), 9)

    def test_of_count_none(self):
        for unit in ("days", "open"):
            self.assertEqual(end((), 3, (0, unit)), 3)
            self.assertEqual(end((), 5, (0, unit)), 7)
            self.assertEqual(end((3, 4), 3, (0, unit)), 7)

    def test_great_terms(self):
        self.assertEqual(end((), 30000, (400, "open")), plain.end((), 30000, (400, "open")))
        self.assertEqual(end((), 0, (5 * 10 ** 9, "open")), 7 * 10 ** 9)

    def test_all_as_reckoned_day_by_day(self):
        calendars = ((), (0,), (3, 4, 7), (5, 6), (2, 9, 10, 11, 14, 15), tuple(range(8, 30)), (700,))
        for calendar in calendars:
            for day in range(24):
                self.assertEqual(is_open(calendar, day), plain.is_open(calendar, day))
                self.assertEqual(next_open(calendar, day), plain.next_open(calendar, day))
                before = [one for one in range(day + 1) if plain.is_open(calendar, one)]
                self.assertEqual(last_open(calendar, day), before[-1] if before else None)
                for count in range(12):
                    for unit in ("days", "open"):
                        term = (count, unit)
                        last = plain.end(calendar, day, term)
                        self.assertEqual(end(calendar, day, term), last)
                        self.assertIs(within(calendar, day, term, last), True)
                        self.assertIs(within(calendar, day, term, last + 1), False)

    def test_within(self):
        for term in ((5, "days"), (5, "open")):
            self.assertIs(within((), 0, term, 0), True)
            self.assertIs(within((), 0, term, 6), True)
            self.assertIs(within((), 0, term, 7), True)
            self.assertIs(within((), 0, term, 8), False)
        self.assertIs(within((), 5, (1, "open"), 0), True)


class Refusals(unittest.TestCase):
    def refused(self, error, ask, *given):
        with self.assertRaises(error) as caught:
            ask(*given)
        self.assertIs(type(caught.exception), error)

    def test_no_calendar(self):
        for thing in NO_CALENDARS + ANYTHING:
            for ask in (is_open, next_open, last_open):
                self.refused(NoCalendar, ask, thing, 0)
            self.refused(NoCalendar, end, thing, 0, TERM)
            self.refused(NoCalendar, within, thing, 0, TERM, 0)

    def test_no_day(self):
        for thing in NO_DAYS:
            for ask in (is_open, next_open, last_open):
                self.refused(NoDay, ask, (), thing)
            self.refused(NoDay, end, (), thing, TERM)
            self.refused(NoDay, within, (), thing, TERM, 0)
            self.refused(NoDay, within, (), 0, TERM, thing)

    def test_no_term(self):
        for thing in NO_TERMS:
            self.refused(NoTerm, end, (), 0, thing)
            self.refused(NoTerm, within, (), 0, thing, 0)

    def test_the_first_one_that_is_due(self):
        for ask in (is_open, next_open, last_open):
            self.refused(NoCalendar, ask, [], -1)
        self.refused(NoCalendar, end, [], -1, None)
        self.refused(NoCalendar, end, [], 0, None)
        self.refused(NoDay, end, (), -1, None)
        self.refused(NoCalendar, within, [], 0, TERM, -1)
        self.refused(NoCalendar, within, [], -1, None, -1)
        self.refused(NoDay, within, (), 0, None, -1)
        self.refused(NoDay, within, (), -1, None, 0)

    def test_names_of_arguments(self):
        self.assertIs(is_calendar(thing=()), True)
        self.assertIs(is_day(thing=0), True)
        self.assertIs(is_term(thing=TERM), True)
        self.assertIs(is_open(calendar=(), day=0), True)
        self.assertEqual(next_open(day=5, calendar=()), 7)
        self.assertEqual(last_open(day=5, calendar=()), 4)
        self.assertEqual(end(term=TERM, day=0, calendar=()), 3)
        self.assertIs(within(other=4, term=TERM, day=0, calendar=()), False)


if __name__ == "__main__":
    unittest.main()
