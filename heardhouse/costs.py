"""Costs: how awards are shared, what is paid, and who owes whom what."""

from heardhouse.days import check_day, is_day, term_end
from heardhouse.errors import NoAward, NoPayment
from heardhouse.kinds import is_name, is_rising, is_row, is_whole
from heardhouse.papers import KIND, check_case, check_papers, filed_day, standing_ones, taken_ones, takings_up_to

# The place of the ruling's number in an award.
RULING = 0
# The place of the payment term among a case's terms.
PAYMENT_TERM = 3


def is_award(case, thing):
    """Tell of anything whether it is an award of the case's parties."""
    check_case(case)
    return is_award_of(party_names(case), thing)


def is_payment(case, thing):
    """Tell of anything whether it is a payment of the case's parties."""
    check_case(case)
    return is_payment_of(party_names(case), thing)


def parted(coins, shares):
    """Tell each name's part of a sum of coins, in the order of the shares."""
    if not is_whole(coins, 0) or not are_shares(shares):
        raise NoAward()
    return parts_of(coins, shares)


def dues(case, papers, awards, payments, day):
    """Tell what each party owes each other one at a day, netted, rising."""
    there = taken_asked(case, papers, awards, payments, day)
    return netted(case, there, awards, payments, day)


def late(case, papers, awards, payments, day):
    """Tell what each party owes each other one though it should have been paid ahead of a day, rising."""
    there = taken_asked(case, papers, awards, payments, day)
    return overdue(case, there, awards, payments, day)


def balance(case, papers, awards, payments, day):
    """Tell for each party what is owed to it at a day less what it owes, rising."""
    there = taken_asked(case, papers, awards, payments, day)
    return balanced(case, there, awards, payments, day)


def taken_asked(case, papers, awards, payments, day):
    """Tell the taken papers up to a day by their numbers, where all is well asked."""
    check_case(case)
    check_papers(papers)
    names = party_names(case)
    if not isinstance(awards, list) or not all([is_award_of(names, award) for award in awards]):
        raise NoAward()
    if not isinstance(payments, list) or not all([is_payment_of(names, payment) for payment in payments]):
        raise NoPayment()
    check_day(day)
    return taken_ones(takings_up_to(case, papers, day))


def party_names(case):
    """Tell the names of a case's parties, rising."""
    return [name for name, _ in case[1]]


def is_award_of(names, thing):
    """Tell whether a thing is an award of parties of these names."""
    if not is_row(thing, 4):
        return False
    ruling, payee, coins, shares = thing
    if not is_whole(ruling, 1) or not is_one_of(names, payee) or not is_whole(coins, 0):
        return False
    return are_shares(shares) and all([name in names and name != payee for name, _ in shares])


def is_payment_of(names, thing):
    """Tell whether a thing is a payment of parties of these names."""
    if not is_row(thing, 4):
        return False
    day, payer, payee, coins = thing
    if not is_day(day) or not is_one_of(names, payer) or not is_one_of(names, payee):
        return False
    return payer != payee and is_whole(coins, 1)


def is_one_of(names, thing):
    """Tell whether a thing is one of the names."""
    # A thing of another kind may say that it is like any name.
    return is_name(thing) and thing in names


def are_shares(thing):
    """Tell whether a thing is what an award may be shared by."""
    if not isinstance(thing, tuple) or not all([is_share(share) for share in thing]):
        return False
    return len(thing) > 0 and is_rising([name for name, _ in thing])


def is_share(thing):
    """Tell whether a thing is a name and its weight."""
    if not is_row(thing, 2):
        return False
    name, weight = thing
    return is_name(name) and is_whole(weight, 1)


def parts_of(coins, shares):
    """Tell each name's part, of what is known to be good."""
    whole = sum([weight for _, weight in shares])
    parts = [coins * weight // whole for _, weight in shares]
    left = coins - sum(parts)
    # The greatest rests come first, of like ones the first share's.
    order = sorted([(-(coins * weight % whole), place) for place, (_, weight) in enumerate(shares)])
    for _, place in order[:left]:
        parts[place] += 1
    return [(name, part) for (name, _), part in zip(shares, parts)]


def counting(there, awards):
    """Tell the awards whose rulings stand, of taken papers in order."""
    stands = standing_ones(there)
    return [award for award in awards if award[RULING] in stands and there[award[RULING]][KIND] == "ruling"]


def owed_by(awards):
    """Tell what awards that count let each pair (one, other) of them owe."""
    owed = {}
    for _, payee, coins, shares in awards:
        for name, part in parts_of(coins, shares):
            owed[(name, payee)] = owed.get((name, payee), 0) + part
    return owed


def paid_up_to(payments, day):
    """Tell what was paid up to a day by each pair (one, other) of payer and payee."""
    paid = {}
    for when, payer, payee, coins in payments:
        if when <= day:
            paid[(payer, payee)] = paid.get((payer, payee), 0) + coins
    return paid


def pairs_of(case):
    """Tell all pairs (one, other) of unlike parties, rising."""
    names = party_names(case)
    return [(one, other) for one in names for other in names if one != other]


def owing(sums):
    """Tell the rows (one, other, sum) of those pairs that owe anything."""
    return [(one, other, coins) for (one, other), coins in sums.items() if coins > 0]


def netted(case, there, awards, payments, day):
    """Tell what each party owes each other one, of the taken papers up to a day."""
    owed = owed_by(counting(there, awards))
    paid = paid_up_to(payments, day)
    rest = {pair: owed.get(pair, 0) - paid.get(pair, 0) for pair in pairs_of(case)}
    return owing({(one, other): coins - rest[(other, one)] for (one, other), coins in rest.items()})


def overdue(case, there, awards, payments, day):
    """Tell what each party owes each other one too late, of the taken papers up to a day."""
    ended = [award for award in counting(there, awards) if payment_end(case, there[award[RULING]]) < day]
    owed = owed_by(ended)
    paid = paid_up_to(payments, day)
    return owing({pair: owed.get(pair, 0) - paid.get(pair, 0) for pair in pairs_of(case)})


def payment_end(case, ruling):
    """Tell the last day on which what a ruling awards is paid in time."""
    return term_end(case[0], filed_day(case, ruling), case[3][PAYMENT_TERM])


def balanced(case, there, awards, payments, day):
    """Tell each party's balance, of the taken papers up to a day."""
    totals = {name: 0 for name in party_names(case)}
    for one, other, coins in netted(case, there, awards, payments, day):
        totals[one] -= coins
        totals[other] += coins
    return [(name, total) for name, total in totals.items()]
