"""Payments: fewest ones that settle accounts, a table that shows it, and what stopped lines leave to the others."""

from throughlines.errors import NoProof
from throughlines.kinds import is_pair_of_lists, is_tuple, is_whole, is_whole_between
from throughlines.money import parts


def fewest(accounts):
    """Fewest payments that settle the accounts, and the table that shows it, as (payments, table)."""
    places = [at for at, account in enumerate(accounts) if account != 0]
    worths = [accounts[at] for at in places]
    table = greatest_table(worths)
    told = []
    for group in settled_groups(worths, table):
        told += payments_among(sorted([places[at] for at in group]), accounts)
    return (told, table)


def set_sums(worths):
    """Of each set, by its number, what its accounts come to."""
    sums = [0]
    for worth in worths:
        sums = sums + [found + worth for found in sums]
    return sums


def sets_within(number, many):
    """The sets that are one line less, as (the line, the set's number)."""
    return [(at, number - (1 << at)) for at in range(many) if number >> at & 1]


def least_number(table, total, number, many):
    """The least that a set's number may be by those of the sets one line less."""
    known = max([table[less] for at, less in sets_within(number, many)])
    return known + 1 if total == 0 else known


def greatest_table(worths):
    """Of each set how many beginnings of a row of its lines can come to nought."""
    table = []
    for number, total in enumerate(set_sums(worths)):
        table.append(least_number(table, total, number, len(worths)) if number > 0 else 0)
    return table


def settled_groups(worths, table):
    """All lines in groups, each of which comes to nought, as many as the table's last number."""
    sums = set_sums(worths)
    groups = [[]]
    number = len(table) - 1
    while number > 0:
        if sums[number] == 0 and groups[-1]:
            groups.append([])
        # The one that is last in a row with most beginnings leaves the most for the rest.
        at, number = max(sets_within(number, len(worths)), key=lambda less: table[less[1]])
        groups[-1].append(at)
    return groups


def payments_among(places, accounts):
    """Each payment settles one of the two, and the last one both: one less than there are places."""
    payers = [[at, -accounts[at]] for at in places if accounts[at] < 0]
    payees = [[at, accounts[at]] for at in places if accounts[at] > 0]
    told = []
    while payers and payees:
        pence = min(payers[0][1], payees[0][1])
        told.append((payers[0][0], payees[0][0], pence))
        payers[0][1] -= pence
        payees[0][1] -= pence
        payers = [row for row in payers if row[1] > 0]
        payees = [row for row in payees if row[1] > 0]
    return told


def look_payments(accounts, thing):
    """Refuses what are no payments that settle the accounts, or are not shown to be the fewest."""
    if not is_pair_of_lists(thing):
        raise NoProof("paper")
    payments, table = thing
    if not all([is_payment(len(accounts), row) for row in payments]) or not settle(accounts, payments):
        raise NoProof("payments")
    worths = [account for account in accounts if account != 0]
    if not is_table(worths, table):
        raise NoProof("table")
    if len(payments) > len(worths) - table[-1]:
        raise NoProof("many")


def is_payment(many, thing):
    if not is_tuple(thing, 3, 3):
        return False
    payer, payee, pence = thing
    if not is_whole_between(payer, 0, many - 1) or not is_whole_between(payee, 0, many - 1):
        return False
    return payer != payee and is_whole(pence) and pence > 0


def settle(accounts, payments):
    got = [0] * len(accounts)
    for payer, payee, pence in payments:
        got[payer] -= pence
        got[payee] += pence
    return got == accounts


def is_table(worths, thing):
    """Whether it has for each set a number that is not below its least one, and 0 for the empty one."""
    sums = set_sums(worths)
    if len(thing) != len(sums) or not all([is_whole(number) for number in thing]) or thing[0] != 0:
        return False
    many = len(worths)
    return all([thing[at] >= least_number(thing, sums[at], at, many) for at in range(1, len(sums))])


def carried(accounts, stopped):
    """The accounts when the others have given the stopped lines what these lack."""
    told = list(accounts)
    for at in stopped:
        if told[at] >= 0:
            continue
        givers = [giver for giver, account in enumerate(told) if account > 0]
        given = parts(-told[at], [told[giver] for giver in givers])
        told[at] += sum(given)
        for giver, pence in zip(givers, given):
            told[giver] -= pence
    return told
