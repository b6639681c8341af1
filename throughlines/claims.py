"""Claims: by what each is settled, and who bears it."""

from throughlines.losses import bearers, seals

# The places of the claim in an answer, a ruling and a withdrawal, and of what these tell of it.
CLAIM = 3
ANSWERED = 4
RULED = 4


def claim_decision(net, stand, number):
    """The state of a standing claim, and the lines that are to bear it by their names, in the net's order."""
    if of_claim(stand, "withdrawal", number):
        return ("withdrawn", [])
    rulings = of_claim(stand, "ruling", number)
    if rulings:
        # They come by number, so the last one has the greatest.
        return ruled(rulings[-1][RULED])
    said = [answer[ANSWERED] for answer in of_claim(stand, "answer", number)]
    if said:
        return ("answers", [line for line in net[0] if line in said])
    return ("open", [])


def of_claim(stand, kind, number):
    return [paper for paper in stand[kind].values() if paper[CLAIM] == number]


def ruled(ruling):
    if ruling == ("none",):
        return ("nobody", [])
    return (ruling[0], list(ruling[1:]))


def claim_bearers(net, stand, number, way, day, told):
    """Who bears a standing claim, as (line, weight); told is the history of the waybill's wagon with its returns."""
    state, lines = claim_decision(net, stand, number)
    if state == "seals":
        steps, returns = told
        return bearers(net, way, seals(net, way, day, steps, returns))
    return [(line, 1) for line in lines]
