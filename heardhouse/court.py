"""The court: it keeps a case's papers, awards and payments, and tells what comes of them."""

from heardhouse.costs import balanced, is_award, is_payment, netted, overdue
from heardhouse.days import check_day
from heardhouse.errors import NoAward, NoPayment, Twice
from heardhouse.papers import NUMBER, check_case, check_paper, filed_day, taken_ones, taking
from heardhouse.seals import check_person, check_word, seen_words, shown_rows
from heardhouse.stands import last_rulings, reopened_numbers, standing_numbers


class Court:
    """A case's papers, in whatever order they come, with its awards and payments.

    What takings were reckoned is kept: a paper's hangs on those ahead of it alone, so a filing
    lets go of those from its own place on, and the next question that needs them reckons these.
    """

    def __init__(self, case):
        check_case(case)
        self.case = case
        # The docket, as tuples (filed day, number, paper).
        self.entries = []
        # Tuples (paper, word) of the docket's first papers, whose takings are known.
        self.ahead = []
        self.reckonings = 0
        self.awards = []
        self.payments = []

    def file(self, paper):
        """Take a paper in, and tell its place in the docket."""
        check_paper(paper)
        number = paper[NUMBER]
        if number in [other for _, other, _ in self.entries]:
            raise Twice(number)
        day = filed_day(self.case, paper)
        place = len([True for when, other, _ in self.entries if (when, other) < (day, number)])
        self.entries.insert(place, (day, number, paper))
        self.ahead = self.ahead[:place]
        return place

    def docket(self):
        """Tell the papers by filed days, of one day by numbers."""
        return [paper for _, _, paper in self.entries]

    def taken(self):
        """Tell each paper's number and its word, in the docket's order."""
        self.reckon()
        return [(paper[NUMBER], word) for paper, word in self.ahead]

    def standing(self, day):
        """Tell the numbers of the papers that stand at a day, rising."""
        check_day(day)
        return standing_numbers(self.taken_up_to(day))

    def settled(self, day):
        """Tell each standing claim and motion with the last standing ruling about it, or None."""
        check_day(day)
        return last_rulings(self.taken_up_to(day))

    def reopened(self, day):
        """Tell the numbers of the claims and motions on which rulings were made, none of which stands."""
        check_day(day)
        return reopened_numbers(self.taken_up_to(day))

    def view(self, person, day):
        """Tell the docket up to a day as a person sees it."""
        check_person(self.case, person)
        check_day(day)
        return shown_rows(self.case, self.rows_up_to(day), person)

    def sees(self, person, number, place, day):
        """Tell whether a person may see a word of a paper at a day."""
        check_person(self.case, person)
        check_day(day)
        # No taking is needed to refuse, so none is reckoned by a question that is refused.
        check_word([paper for when, _, paper in self.entries if when <= day], number, place)
        return (number, place) in seen_words(self.case, self.rows_up_to(day), person)

    def news(self, person, since, day):
        """Tell the rows of a person's view at a day that were not so in the view at another."""
        check_person(self.case, person)
        check_day(since)
        check_day(day)
        before = {row[0]: row for row in shown_rows(self.case, self.rows_up_to(since), person)}
        rows = shown_rows(self.case, self.rows_up_to(day), person)
        return [row for row in rows if before.get(row[0]) != row]

    def looked(self):
        """Tell how many papers' takings were reckoned so far."""
        return self.reckonings

    def award(self, ruling, payee, coins, shares):
        """Keep an award."""
        given = (ruling, payee, coins, shares)
        if not is_award(self.case, given):
            raise NoAward()
        self.awards.append(given)

    def pay(self, day, payer, payee, coins):
        """Keep a payment."""
        given = (day, payer, payee, coins)
        if not is_payment(self.case, given):
            raise NoPayment()
        self.payments.append(given)

    def dues(self, day):
        """Tell what each party owes each other one at a day, netted, rising."""
        check_day(day)
        return netted(self.case, self.taken_up_to(day), self.awards, self.payments, day)

    def late(self, day):
        """Tell what each party owes each other one though it should have been paid ahead of a day, rising."""
        check_day(day)
        return overdue(self.case, self.taken_up_to(day), self.awards, self.payments, day)

    def balance(self, day):
        """Tell for each party what is owed to it at a day less what it owes, rising."""
        check_day(day)
        return balanced(self.case, self.taken_up_to(day), self.awards, self.payments, day)

    def reckon(self):
        """Reckon the takings that are not known."""
        known = len(self.ahead)
        for _, _, paper in self.entries[known:]:
            self.ahead.append((paper, taking(self.case, self.ahead, paper)))
            self.reckonings += 1

    def rows_up_to(self, day):
        """Tell each paper filed up to a day and its word, in the docket's order."""
        self.reckon()
        return [row for row, (when, _, _) in zip(self.ahead, self.entries) if when <= day]

    def taken_up_to(self, day):
        """Tell the taken papers up to a day by their numbers, in the docket's order."""
        return taken_ones(self.rows_up_to(day))
