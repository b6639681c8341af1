"""The office: takes papers, closes months, and tells what it has."""

from throughlines.books import MONTH, entries_at_close, where_booked
from throughlines.claims import claim_decision
from throughlines.errors import NoBill, NoLine, NoMonth, NoNet, NoPaper, NotYet, NoRules, NoWagon, NoWay, Stopped
from throughlines.errors import TooLate, TooMany
from throughlines.hire import astray, wagon_days
from throughlines.histories import histories_of, perhaps_of
from throughlines.kinds import is_tuple, is_whole, is_whole_between
from throughlines.money import MONTHS, month_of
from throughlines.nets import is_net
from throughlines.papers import LAST_NUMBER, MOST_PENCE, NUMBER, WAGON, all_standing, fault, standing
from throughlines.payments import carried, fewest
from throughlines.reckoning import bill_shares, reckoned
from throughlines.sharing import penny_of
from throughlines.ways import is_way

MOST_WAYS = 24
MOST_WAGONS = 24
MOST_FREE = 30
MOST_PAPERS = 400

# The places of the days that may not be ahead of the open month.
DAYS = {"waybill": 3, "return": 4}


def are_ways(net, thing):
    return isinstance(thing, list) and len(thing) <= MOST_WAYS and all([is_way(net, way) for way in thing])


def are_wagons(net, thing):
    if not isinstance(thing, list) or len(thing) > MOST_WAGONS:
        return False
    if not all([is_wagon(net, wagon) for wagon in thing]):
        return False
    return all([near[0] < far[0] for near, far in zip(thing, thing[1:])])


def is_wagon(net, thing):
    return is_tuple(thing, 2, 2) and is_whole_between(thing[0], 1, LAST_NUMBER) and thing[1] in net[0]


def are_rules(net, thing):
    if not is_tuple(thing, 4, 4):
        return False
    end, free, rate, leasts = thing
    if not is_tuple(leasts, len(net[0]), len(net[0])) or not is_whole_between(free, 0, MOST_FREE):
        return False
    return all([is_whole_between(pence, 0, MOST_PENCE) for pence in (end, rate) + leasts])


def month_of_paper(paper):
    """The month of a waybill's or return's day; 0 of other papers, which come in any month."""
    if paper[0] not in DAYS:
        return 0
    return month_of(paper[DAYS[paper[0]]])


def account_in(entries, at):
    """The sum of one line's amounts, by its place."""
    return sum([amounts[at] for number, month, key, turns, amounts in entries])


class Office:
    """A house's papers, its book and its closed months."""

    def __init__(self, net, ways, wagons, rules):
        if not is_net(net):
            raise NoNet("it is no net")
        if not are_ways(net, ways):
            raise NoWay("they are no ways of the net")
        if not are_wagons(net, wagons):
            raise NoWagon("they are no wagons of the net's lines")
        if not are_rules(net, rules):
            raise NoRules("they are no rules")
        self.net = net
        self.ways = list(ways)
        self.wagons = list(wagons)
        self.rules = rules
        self.taken = []
        self.book = []
        self.months = []
        self.halted = []

    def take(self, thing):
        """Takes a paper: "new", or "double" where it has it already."""
        wrong = fault(self.net, self.ways, self.wagons, thing)
        if wrong != -1:
            raise NoPaper(wrong)
        if self.open_month() > MONTHS:
            raise TooLate("the last month is closed")
        if month_of_paper(thing) > self.open_month():
            raise NotYet("its day is in a later month than the open one")
        if thing in self.taken:
            return "double"
        if len(self.taken) >= MOST_PAPERS:
            raise TooMany("the office has as many papers as it may")
        self.taken.append(thing)
        return "new"

    def close(self):
        """Closes the open month, and tells its payments."""
        month = self.open_month()
        if month > MONTHS:
            raise TooLate("the last month is closed")
        due = reckoned(self.net, self.ways, self.wagons, self.rules, self.taken)
        booked = entries_at_close(self.book, month, due)
        lines = self.net[0]
        accounts = [account_in(booked, at) for at in range(len(lines))]
        borne = carried(accounts, [at for at, line in enumerate(lines) if line in self.halted])
        payments = [(lines[payer], lines[payee], pence) for payer, payee, pence in fewest(borne)[0]]
        self.book = self.book + booked
        self.months.append((accounts, borne, payments))
        return list(payments)

    def stop(self, line):
        """Stops a line for all closes from now on."""
        self.place_of(line)
        if line in self.halted:
            raise Stopped("the line is stopped already")
        self.halted.append(line)

    def place_of(self, line):
        if line not in self.net[0]:
            raise NoLine("it is no line of the net")
        return self.net[0].index(line)

    def open_month(self):
        return len(self.months) + 1

    def papers(self):
        return list(self.taken)

    def is_closed(self, month):
        return is_whole_between(month, 1, len(self.months))

    def entries(self, month):
        """The entries of a closed month, or of all where it is 0."""
        if is_whole(month) and month == 0:
            return list(self.book)
        if not self.is_closed(month):
            raise NoMonth("the month is not closed")
        return [entry for entry in self.book if entry[MONTH] == month]

    def closed(self, month):
        """Of a closed month its accounts, what comes of them with the stopped lines, and the payments."""
        if not self.is_closed(month):
            raise NoMonth("the month is not closed")
        accounts, borne, payments = self.months[month - 1]
        return (list(accounts), list(borne), list(payments))

    def account(self, line):
        return account_in(self.book, self.place_of(line))

    def penny(self, number, penny):
        """To which line and part of a waybill its penny belongs, and where that is booked."""
        stand = all_standing(self.taken)
        if not is_whole(number) or number not in stand["waybill"] or not is_whole(penny):
            raise NoBill("no such waybill stands, or it is no number of a penny")
        found = penny_of(bill_shares(self.net, self.ways, self.rules, stand, stand["waybill"][number]), penny)
        if not found:
            raise NoBill("the waybill has no such penny")
        return found + where_booked(self.book, ("waybill", number))

    def claim_state(self, number):
        """By what a claim is settled, "none" where it or its waybill doesn't stand."""
        stand = all_standing(self.taken)
        if not is_whole(number) or number not in stand["claim"]:
            return "none"
        kind, number, edition, bill, pence = stand["claim"][number]
        if bill not in stand["waybill"]:
            return "none"
        return claim_decision(self.net, stand, number)[0]

    def histories(self):
        """A dict: of each wagon its steps and its own returns."""
        return histories_of(self.net, self.wagons, standing(self.taken, "return"))

    def perhaps(self):
        """Of each stray and each return put aside the wagons of which it perhaps is."""
        told = self.histories()
        asides = [step for steps, own in told.values() for step in steps if step[0] == "aside"]
        returns = standing(self.taken, "return")
        return [
            (row[NUMBER], perhaps_of(self.net, self.wagons, returns, row)) for row in returns
            if row[WAGON] not in told or ("aside", row[NUMBER]) in asides
        ]

    def astray_ones(self):
        told = self.histories()
        return [
            (wagon, number) for wagon, line in self.wagons
            for number in astray(line, told[wagon][0], told[wagon][1])
        ]

    def history_of(self, wagon):
        """A wagon's steps and its own returns."""
        found = [own for own in self.wagons if is_whole(wagon) and own[0] == wagon]
        if not found:
            raise NoWagon("it is none of the office's wagons")
        return histories_of(self.net, found, standing(self.taken, "return"))[wagon]

    def steps(self, wagon):
        return self.history_of(wagon)[0]

    def days(self, wagon):
        steps, returns = self.history_of(wagon)
        return wagon_days(steps, returns)
