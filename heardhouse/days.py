"""Days: which of them are open, and when terms end."""

from heardhouse.errors import NoCalendar, NoDay, NoTerm
from heardhouse.kinds import is_rising, is_row, is_whole

WEEK = 7
# The first so many days of each week are its workdays.
WORKDAYS = 5
UNITS = ("days", "open")


def is_calendar(thing):
    """Tell of anything whether it is a calendar."""
    if not isinstance(thing, tuple):
        return False
    return all([is_day(day) for day in thing]) and is_rising(thing)


def is_day(thing):
    """Tell of anything whether it is a day."""
    return is_whole(thing, 0)


def is_term(thing):
    """Tell of anything whether it is a term."""
    if not is_row(thing, 2):
        return False
    count, unit = thing
    return is_whole(count, 0) and isinstance(unit, str) and unit in UNITS


def is_open(calendar, day):
    """Tell whether a day is open."""
    check_days(calendar, (day,))
    return is_workday(day) and day not in calendar


def next_open(calendar, day):
    """Tell the first open day from a day on."""
    check_days(calendar, (day,))
    return first_open(calendar, day)


def last_open(calendar, day):
    """Tell the last open day up to a day, or None."""
    check_days(calendar, (day,))
    rank = rank_of(day)
    # Holidays fall here, so a row of them is passed in one walk.
    for holiday in reversed(calendar):
        if holiday == workday_of(rank):
            rank -= 1
    if rank == 0:
        return None
    return workday_of(rank)


def end(calendar, day, term):
    """Tell the last day of a term that begins behind a day."""
    check_days(calendar, (day,))
    check_term(term)
    return term_end(calendar, day, term)


def within(calendar, day, term, other):
    """Tell whether the other day is no later than the end of the term."""
    check_days(calendar, (day, other))
    check_term(term)
    return other <= term_end(calendar, day, term)


def check_days(calendar, days):
    """Refuse what is no calendar, then what is no day."""
    if not is_calendar(calendar):
        raise NoCalendar()
    for day in days:
        check_day(day)


def check_day(day):
    """Refuse what is no day."""
    if not is_day(day):
        raise NoDay()


def check_term(term):
    """Refuse what is no term."""
    if not is_term(term):
        raise NoTerm()


def is_workday(day):
    """Tell whether a day is open where no holiday is on it."""
    return day % WEEK < WORKDAYS


def rank_of(day):
    """Tell how many workdays there are up to a day."""
    return day // WEEK * WORKDAYS + min(day % WEEK + 1, WORKDAYS)


def workday_of(rank):
    """Tell the workday of a rank, the first one's rank being 1."""
    return (rank - 1) // WORKDAYS * WEEK + (rank - 1) % WORKDAYS


def open_behind(calendar, day, count):
    """Tell the count-th open day behind a day, count from 1 on."""
    rank = rank_of(day) + count
    # Holidays rise, so each that is passed moves the rank on just once.
    for holiday in calendar:
        if holiday > day and is_workday(holiday) and holiday <= workday_of(rank):
            rank += 1
    return workday_of(rank)


def first_open(calendar, day):
    """Tell the first open day from a day on, of what is known to be good."""
    return open_behind(calendar, day - 1, 1)


def term_end(calendar, day, term):
    """Tell the last day of a term, of what is known to be good."""
    count, unit = term
    if unit == "days" or count == 0:
        return first_open(calendar, day + count)
    return open_behind(calendar, day, count)
