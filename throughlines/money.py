"""Whole pence parted by weights, wishes and leasts; days and months."""

MONTH_DAYS = 30
MONTHS = 14


def parts(pence, weights):
    """The sum in parts by the weights, the pennies left to the greatest rests."""
    whole = sum(weights)
    if whole == 0:
        # Such weights are beyond the document, but they are to raise no error.
        return [0] * len(weights)
    told = [pence * weight // whole for weight in weights]
    rests = [pence * weight % whole for weight in weights]
    left = pence - sum(told)
    by_rest = sorted(range(len(weights)), key=lambda at: (-rests[at], at))
    for at in by_rest[:left]:
        told[at] += 1
    return told


def ahead(pence, wishes):
    """The wishes, or the sum's parts by them where it doesn't suffice."""
    if sum(wishes) <= pence:
        return list(wishes)
    return parts(pence, wishes)


def with_leasts(pence, weights, leasts):
    """The sum in parts by the weights, none below its least where the sum suffices."""
    if sum(leasts) > pence:
        return parts(pence, leasts)
    held = [0] * len(weights)
    free = list(weights)
    while True:
        # A held one's weight is 0, so that it gets nothing beside its least.
        shared = parts(pence - sum(held), free)
        told = [kept + got for kept, got in zip(held, shared)]
        short = [at for at, got in enumerate(told) if got < leasts[at]]
        if not short:
            return told
        for at in short:
            held[at] = leasts[at]
            free[at] = 0


def month_of(day):
    return (day - 1) // MONTH_DAYS + 1


def days_of(month):
    """The first and the last day of the month."""
    return ((month - 1) * MONTH_DAYS + 1, month * MONTH_DAYS)
