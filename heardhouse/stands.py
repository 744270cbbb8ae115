"""What stands at a day, what rulings lean on, what falls with a paper, and what is settled."""

from heardhouse.days import check_day
from heardhouse.errors import NoNumber
from heardhouse.kinds import is_whole
from heardhouse.papers import (
    ABOUT, KIND, NUMBER, check_case, check_papers, leaned_on, standing_ones, taken_ones, takings_up_to,
)

# Of these kinds are the papers that a ruling settles.
SETTLED = ("claim", "motion")


def standing(case, papers, day):
    """Tell the numbers of the papers that stand at a day, rising."""
    return standing_numbers(taken_ones(rows_asked(case, papers, day)))


def leans(case, papers, day):
    """Tell each taken ruling with each paper that it rests on or is about, rising."""
    there = taken_ones(rows_asked(case, papers, day))
    rulings = [row for row in there.values() if row[KIND] == "ruling"]
    return sorted({(row[NUMBER], other) for row in rulings for other in leaned_on(row)})


def falls(case, papers, number, day):
    """Tell the numbers of the standing rulings that would fall if a paper were struck at a day, rising."""
    rows = rows_asked(case, papers, day)
    if not is_number_of(rows, number):
        raise NoNumber()
    there = taken_ones(rows)
    left = standing_ones(with_strike(there, number))
    rulings = [one for one in standing_ones(there) if there[one][KIND] == "ruling"]
    return sorted([one for one in rulings if one not in left])


def settled(case, papers, day):
    """Tell each standing claim and motion with the last standing ruling about it, or None."""
    return last_rulings(taken_ones(rows_asked(case, papers, day)))


def reopened(case, papers, day):
    """Tell the numbers of the claims and motions on which rulings were made, none of which stands."""
    return reopened_numbers(taken_ones(rows_asked(case, papers, day)))


def rows_asked(case, papers, day):
    """Tell the papers up to a day and their words, where all is well asked."""
    check_case(case)
    check_papers(papers)
    check_day(day)
    return takings_up_to(case, papers, day)


def is_number_of(rows, thing):
    """Tell whether a thing is the number of one of the papers, taken or refused."""
    return is_whole(thing, 1) and thing in [paper[NUMBER] for paper, _ in rows]


def with_strike(there, number):
    """Tell the taken papers with one more, which strikes a paper and is struck by none."""
    beyond = max(there, default=0) + 1
    # What stands hangs neither on the day nor on the maker of a strike.
    return {**there, beyond: (beyond, 0, "", "strike", number, (), ())}


def standing_numbers(there):
    """Tell the numbers that stand, rising, of taken papers in order."""
    return sorted(standing_ones(there))


def reopened_numbers(there):
    """Tell the numbers of what was ruled on in vain, rising, of taken papers in order."""
    ruled_on = {row[ABOUT]: True for row in there.values() if row[KIND] == "ruling"}
    return [number for number, ruling in last_rulings(there) if ruling is None and number in ruled_on]


def last_rulings(there):
    """Tell each standing claim and motion with its last standing ruling, of taken papers in order."""
    stands = standing_ones(there)
    last = {there[one][ABOUT]: one for one in stands if there[one][KIND] == "ruling"}
    return [(one, last.get(one)) for one in sorted(stands) if there[one][KIND] in SETTLED]
