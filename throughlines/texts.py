"""Texts: nets and papers written in rows of words, and read again."""

from throughlines.errors import NoText
from throughlines.nets import is_net
from throughlines.papers import fault
from throughlines.rows import NET_ROWS, house_in, net_of_rows, paper_in, words_of


def show_row(things):
    return " ".join([str(thing) for thing in things])


def show_net(net):
    """The net in rows, line ends between."""
    lines, stations, junctions, ties = net
    rows = [("line", line) for line in lines]
    rows += [("station",) + station for station in stations]
    rows += [("junction", name) + joined for name, joined in junctions]
    rows += [("tie",) + tie for tie in ties]
    return "\n".join([show_row(row) for row in rows])


def show_paper(paper):
    """The paper in one row."""
    words = []
    for thing in paper:
        words += list(thing) if isinstance(thing, tuple) else [thing]
    return show_row(words)


def read_net(thing):
    """The net that the text writes."""
    net = net_in(thing)
    # What is read is to be written just so: it sees rows in another order, and blanks or line ends too many.
    if net is None or not is_net(net) or show_net(net) != thing:
        raise NoText("it is no written net")
    return net


def net_in(thing):
    """What the rows of a text tell of a net, None where one of them is no such row."""
    if not isinstance(thing, str):
        return None
    house = {kind: [] for kind in NET_ROWS}
    for row in thing.split("\n"):
        words = words_of(row)
        told = house_in(words) if words and words[0] in house else None
        if told is None:
            return None
        house[words[0]].append(told)
    return net_of_rows(house)


def read_paper(net, ways, wagons, thing):
    """The paper that the text writes."""
    words = words_of(thing)
    paper = paper_in(words) if words else None
    if paper is None or fault(net, ways, wagons, paper) != -1:
        raise NoText("it is no written paper")
    return paper
