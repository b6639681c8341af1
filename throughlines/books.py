"""Books: which entries stand, what a close books, and books that are looked at."""

from throughlines.errors import NoProof
from throughlines.kinds import is_tuple, is_whole, is_whole_between
from throughlines.money import MONTHS
from throughlines.papers import LAST_NUMBER
from throughlines.reckoning import reckoned

# The places of an entry's things.
NUMBER = 0
MONTH = 1
KEY = 2
TURNS = 3
AMOUNTS = 4

KEY_KINDS = ("waybill", "claim", "hire")


def standing_entries(book):
    """A dict: of each key its standing entry."""
    found = {}
    for entry in book:
        put_in(found, entry)
    return found


def put_in(stand, entry):
    """Keeps the standing entries as they are behind this one."""
    if entry[TURNS] == 0:
        stand[entry[KEY]] = entry
    else:
        del stand[entry[KEY]]


def where_booked(book, key):
    """Month and number of the key's standing entry, noughts without one."""
    entry = standing_entries(book).get(key)
    return (0, 0) if entry is None else (entry[MONTH], entry[NUMBER])


def contrary(amounts):
    return tuple([-pence for pence in amounts])


def key_place(key):
    """By it keys come in the order of the reckoning."""
    return (KEY_KINDS.index(key[0]), key[1:])


def entries_at_close(book, month, due):
    """What is booked behind the book, so that just the due (key, amounts) stand."""
    stand = standing_entries(book)
    wanted = dict(due)
    keys = list(wanted) + [key for key in stand if key not in wanted]
    told = []
    for key in sorted(keys, key=key_place):
        known = stand.get(key)
        amounts = wanted.get(key)
        if known is not None and known[AMOUNTS] == amounts:
            continue
        if known is not None:
            number = len(book) + len(told) + 1
            told.append((number, month, key, known[NUMBER], contrary(known[AMOUNTS])))
        if amounts is not None:
            told.append((len(book) + len(told) + 1, month, key, 0, amounts))
    return told


def look_book(net, ways, wagons, rules, papers, thing):
    """Refuses what is no book, and one in which not just what is due stands."""
    if not isinstance(thing, list):
        raise NoProof(0)
    stand = {}
    month = 1
    for at, entry in enumerate(thing, start=1):
        if not is_entry(entry, at, month, len(net[0])) or not may_come(stand, entry):
            raise NoProof(at)
        put_in(stand, entry)
        month = entry[MONTH]
    due = dict(reckoned(net, ways, wagons, rules, papers))
    if {key: stand[key][AMOUNTS] for key in stand} != due:
        raise NoProof("due")


def is_entry(thing, at, month, many):
    """Whether it is an entry by itself, of this place, of this month or a later one, and of so many amounts."""
    if not is_tuple(thing, 5, 5) or not is_whole(thing[NUMBER]) or thing[NUMBER] != at:
        return False
    if not is_whole_between(thing[MONTH], month, MONTHS) or not is_whole(thing[TURNS]):
        return False
    return is_key(thing[KEY]) and are_amounts(thing[AMOUNTS], many)


def is_key(thing):
    if not is_tuple(thing, 2, 3) or thing[0] not in KEY_KINDS or not is_whole_between(thing[1], 1, LAST_NUMBER):
        return False
    if thing[0] == "hire":
        return len(thing) == 3 and is_whole_between(thing[2], 1, MONTHS)
    return len(thing) == 2


def are_amounts(thing, many):
    if not is_tuple(thing, many, many) or not all([is_whole(pence) for pence in thing]):
        return False
    return any(thing) and sum(thing) == 0


def may_come(stand, entry):
    """Whether it turns the standing entry of its key, or turns none, and none of its key stands."""
    known = stand.get(entry[KEY])
    if entry[TURNS] == 0:
        return known is None
    return known is not None and known[NUMBER] == entry[TURNS] and known[AMOUNTS] == contrary(entry[AMOUNTS])
