"""The desk: a house set up, and its office spoken to, by rows of words."""

from throughlines.errors import NoSaying
from throughlines.office import Office
from throughlines.rows import HOUSE_ROWS, house_in, net_of_rows, paper_in, things_in, words_of

# What stands behind the first word of the rows that ask or tell the office something, but for the papers.
OFFICE_ROWS = {
    "close": (),
    "stop": ("name",),
    "month": (),
    "entries": ("number",),
    "account": ("name",),
    "closed": ("number",),
    "penny": ("number", "number"),
    "claim": ("number",),
    "perhaps": (),
    "astray": (),
    "history": ("number",),
    "days": ("number",),
}


def show_thing(thing):
    """A thing within a tuple: a tuple or list by its things with + between."""
    if isinstance(thing, (list, tuple)):
        return "+".join([str(inner) for inner in thing]) or "-"
    return str(thing) or "-"


def show_things(things):
    return ",".join([show_thing(thing) for thing in things]) or "-"


def show_tuples(tuples):
    return " ".join([show_things(things) for things in tuples]) or "-"


def say_close(office, things):
    return show_tuples(office.close())


def say_stop(office, things):
    office.stop(things[0])
    return "ok"


def say_month(office, things):
    return str(office.open_month())


def say_entries(office, things):
    told = office.entries(things[0])
    return show_tuples([(number, month) + key + (turns,) + amounts for number, month, key, turns, amounts in told])


def say_account(office, things):
    return str(office.account(things[0]))


def say_closed(office, things):
    accounts, borne, payments = office.closed(things[0])
    return ";".join([show_things(accounts), show_things(borne), show_tuples(payments)])


def say_penny(office, things):
    return show_things(office.penny(things[0], things[1]))


def say_claim(office, things):
    return office.claim_state(things[0])


def say_perhaps(office, things):
    return show_tuples(office.perhaps())


def say_astray(office, things):
    return show_tuples(office.astray_ones())


def say_history(office, things):
    return show_tuples(office.steps(things[0]))


def say_days(office, things):
    return show_tuples([(day,) + place for day, place in office.days(things[0])])


ANSWERS = {
    "close": say_close,
    "stop": say_stop,
    "month": say_month,
    "entries": say_entries,
    "account": say_account,
    "closed": say_closed,
    "penny": say_penny,
    "claim": say_claim,
    "perhaps": say_perhaps,
    "astray": say_astray,
    "history": say_history,
    "days": say_days,
}


def answered(office, words):
    """What the office answers to a row behind the opening."""
    paper = paper_in(words)
    if paper is not None:
        return office.take(paper)
    word = words[0]
    things = things_in(OFFICE_ROWS[word], words[1:]) if word in OFFICE_ROWS else None
    if things is None:
        raise NoSaying("it is none of the rows")
    answer = ANSWERS[word]
    return answer(office, things)


def office_of(house):
    """The office of what the rows of each kind told."""
    net = net_of_rows(house)
    rules = (0, 0, 0, (0,) * len(net[0]))
    if house["rules"]:
        rules = house["rules"][-1]
    return Office(net, house["way"], sorted(house["wagon"]), rules)


class Desk:
    """What was told of the house so far, and its office, once that is made."""

    def __init__(self):
        self.house = {kind: [] for kind in HOUSE_ROWS}
        self.office = None

    def say(self, row):
        """The answer to a row."""
        words = words_of(row)
        if not words:
            raise NoSaying("it is none of the rows")
        if self.office is not None:
            return answered(self.office, words)
        if words == ["open"]:
            self.office = office_of(self.house)
            return "ok"
        told = house_in(words)
        if told is None:
            raise NoSaying("it is none of the rows of a house")
        self.house[words[0]].append(told)
        return "ok"
