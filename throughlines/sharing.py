"""What was paid for a way, parted among its lines, and the penny's line."""

from throughlines.money import ahead, with_leasts
from throughlines.ways import legs, line_chains


def divided(net, way, pence, cartage, end, tolls, leasts):
    """The sum's parts, as (line, text, pence), those of no pence left out."""
    run = legs(net, way)
    ends = [run[0][0], run[-1][0]]
    lengths = line_chains(net, way)
    lines = [line for line, chains in lengths]
    weights = [chains for line, chains in lengths]
    told = shares_of(ends, "cartage", ahead(pence, list(cartage)))
    told += shares_of(ends, "end", ahead(left_behind(pence, told), [end, end]))
    told += shares_of(lines, "toll", ahead(left_behind(pence, told), sums_of(net, lines, tolls)))
    rest = with_leasts(left_behind(pence, told), weights, sums_of(net, lines, leasts))
    told += shares_of(lines, "chains", rest)
    return told


def shares_of(lines, text, amounts):
    return [(line, text, amount) for line, amount in zip(lines, amounts) if amount > 0]


def left_behind(pence, shares):
    return pence - sum([amount for line, text, amount in shares])


def sums_of(net, lines, sums):
    """Of sums in the net's order those of these lines, in their order."""
    return [sums[net[0].index(line)] for line in lines]


def penny_of(shares, penny):
    """The line and the text to which the penny of this number belongs."""
    for line, text, amount in shares:
        if 0 <= penny < amount:
            return (line, text)
        penny -= amount
    # Such a penny is beyond the document, but it is to raise no error.
    return ()
