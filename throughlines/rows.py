"""Rows of words: which words a row has, and what they write."""

from throughlines.kinds import is_name

MOST_FIGURES = 10

# What stands behind a row's first word: a name, a plain number, or one of the words told;
# ".." lets the one ahead of it come again.
HOUSE_ROWS = {
    "line": ("name",),
    "station": ("name", "name"),
    "junction": ("name", "name", ".."),
    "tie": ("name", "name", "name", "number"),
    "way": ("name", "name", ".."),
    "wagon": ("number", "name"),
    "rules": ("number", "number", "number", "number", ".."),
}
PAPER_ROWS = {
    "waybill": (
        "number", "number", "number", "number", "number", "number", "number", "number", "number",
    ),
    "return": (
        "number", "number", "name", "number", "number", "number", "name", ("laden", "empty"), ("whole", "broken"),
    ),
    "toll": ("number", "number", "name", "number", "number", "number"),
    "claim": ("number", "number", "number", "number"),
    "answer": ("number", "number", "number", "name"),
    "ruling": ("number", "number", "number", ("seals", "none")),
    "withdrawal": ("number", "number", "number"),
}
RULING_FOR_LINE = ("number", "number", "number", ("line",), "name")
NET_ROWS = ("line", "station", "junction", "tie")


def words_of(thing):
    """The words of a row; without any where it is no text, or an empty word is among them."""
    if not isinstance(thing, str):
        return []
    words = thing.split(" ")
    return [] if "" in words else words


def is_plain(word):
    """Whether it is a number in plain figures, without a 0 ahead of others."""
    if not 1 <= len(word) <= MOST_FIGURES or (word[0] == "0" and word != "0"):
        return False
    # isdigit would take figures of other letters, too.
    return all(["0" <= figure <= "9" for figure in word])


def fits(slot, word):
    if slot == "name":
        return is_name(word)
    if slot == "number":
        return is_plain(word)
    return word in slot


def things_in(slots, words):
    """What the words write, as a list of names, numbers and words; None where they don't fit the slots."""
    if slots[-1:] == ("..",):
        slots = slots[:-1] + slots[-2:-1] * (len(words) - len(slots) + 1)
    if len(words) != len(slots) or not all([fits(slot, word) for slot, word in zip(slots, words)]):
        return None
    return [int(word) if slot == "number" else word for slot, word in zip(slots, words)]


def house_in(words):
    """What a row of the house tells, None where it is no such row."""
    kind = words[0]
    things = things_in(HOUSE_ROWS[kind], words[1:]) if kind in HOUSE_ROWS else None
    if things is None:
        return None
    if kind == "line":
        return things[0]
    if kind == "junction":
        return (things[0], tuple(things[1:]))
    if kind == "rules":
        return tuple(things[:3]) + (tuple(things[3:]),)
    return tuple(things)


def net_of_rows(house):
    """The net of what the rows of each kind tell, whether or not it is one."""
    return tuple([tuple(house[kind]) for kind in NET_ROWS])


def paper_in(words):
    """What a paper's row tells, whether or not it is a paper; None where it is no such row."""
    kind = words[0]
    if kind not in PAPER_ROWS:
        return None
    for_line = kind == "ruling" and words[4:5] == ["line"]
    things = things_in(RULING_FOR_LINE if for_line else PAPER_ROWS[kind], words[1:])
    if things is None:
        return None
    if kind == "waybill":
        things[6:8] = [tuple(things[6:8])]
    if kind == "ruling":
        things[3:] = [tuple(things[3:])]
    return (kind,) + tuple(things)
