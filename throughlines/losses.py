"""Losses: the seals seen along a way, and the lines that bear what was lost between them."""

from throughlines.histories import held_returns
from throughlines.papers import DAY, JUNCTION, OVER, SEAL
from throughlines.ways import chains_by_line, crossings, legs


def seals(net, way, day, steps, returns):
    """Of each crossing of the way the seal that was seen there, or None."""
    passed = [
        ((row[JUNCTION], line, row[OVER]), row[SEAL])
        for road, line, row in held_returns(steps, returns) if row[DAY] >= day
    ]
    told = []
    for crossing in crossings(net, way):
        found = [at for at, (over, seal) in enumerate(passed) if over == crossing]
        if found:
            told.append(passed[found[0]][1])
            passed = passed[found[0] + 1:]
        else:
            told.append(None)
    return told


def bearers(net, way, seals):
    """The lines on which the loss lies, as (line, chains), each once."""
    broken = seals.index("broken") if "broken" in seals else len(seals)
    whole = [at for at, seal in enumerate(seals[:broken]) if seal == "whole"]
    first = whole[-1] + 1 if whole else 0
    # The crossing of a number lies behind the leg of that number.
    return chains_by_line(legs(net, way)[first:broken + 1])
