"""The reckoning of papers: what the lines get and give for waybills, claims and hire."""

from throughlines.claims import claim_bearers
from throughlines.hire import hire_days
from throughlines.histories import histories_of
from throughlines.money import month_of, parts
from throughlines.papers import all_standing
from throughlines.sharing import divided
from throughlines.ways import legs


def reckoned(net, ways, wagons, rules, papers):
    """What is due by the papers, as (key, amounts), those of noughts alone left out."""
    stand = all_standing(papers)
    told = histories_of(net, wagons, list(stand["return"].values()))
    due = [(bill[:2], bill_amounts(net, ways, rules, stand, bill)) for bill in stand["waybill"].values()]
    due += [(claim[:2], claim_amounts(net, ways, stand, told, claim)) for claim in stand["claim"].values()]
    for wagon, owner in wagons:
        due += wagon_hire(net, rules, wagon, owner, told[wagon])
    return [(key, amounts) for key, amounts in due if any(amounts)]


def amounts_of(net, moves):
    """Of pence told line by line, as (line, pence), those of each line together."""
    found = {line: 0 for line in net[0]}
    for line, pence in moves:
        found[line] += pence
    return tuple([found[line] for line in net[0]])


def bill_shares(net, ways, rules, stand, bill):
    """What was paid and collected for a standing waybill, divided."""
    kind, number, edition, day, way, paid, collected, cartage, wagon = bill
    end, free, rate, leasts = rules
    return divided(net, ways[way], paid + collected, cartage, end, tolls_on(net, stand, day), leasts)


def tolls_on(net, stand, day):
    """Of each line, in the net's order, the sum of its standing tolls of this day."""
    return amounts_of(net, [
        (line, pence) for kind, number, edition, line, first, last, pence in stand["toll"].values()
        if first <= day <= last
    ])


def bill_amounts(net, ways, rules, stand, bill):
    kind, number, edition, day, way, paid, collected, cartage, wagon = bill
    run = legs(net, ways[way])
    moves = [(line, pence) for line, text, pence in bill_shares(net, ways, rules, stand, bill)]
    return amounts_of(net, moves + [(run[0][0], -paid), (run[-1][0], -collected)])


def claim_amounts(net, ways, stand, told, claim):
    """What the claim's bearers give to the way's first line; noughts where it isn't borne."""
    kind, number, edition, bill, pence = claim
    if bill not in stand["waybill"]:
        return amounts_of(net, [])
    kind, bill, edition, day, at, paid, collected, cartage, wagon = stand["waybill"][bill]
    way = ways[at]
    borne = claim_bearers(net, stand, number, way, day, told[wagon])
    given = parts(pence, [weight for line, weight in borne])
    moves = [(line, -part) for (line, weight), part in zip(borne, given)]
    return amounts_of(net, moves + [(legs(net, way)[0][0], sum(given))])


def wagon_hire(net, rules, wagon, owner, told):
    """The wagon's hire month by month, as (key, amounts)."""
    end, free, rate, leasts = rules
    steps, returns = told
    owed = hire_days(owner, free, steps, returns)
    due = []
    for month in sorted({month_of(day) for day, line in owed}):
        lines = [line for day, line in owed if month_of(day) == month]
        moves = [(line, -rate) for line in lines] + [(owner, rate * len(lines))]
        due.append((("hire", wagon, month), amounts_of(net, moves)))
    return due
