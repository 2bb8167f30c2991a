"""The dealing of a year's water, the oldest right first."""

from riverdue.errors import NotShort
from riverdue.river import flows


def serve(river, year, wants):
    """Serve wants, each a pair of a point and an amount, in their order: what each takes, and the flows behind it."""
    flow = flows(river, year, [0] * river.points())
    takes = []
    for point, amount in wants:
        way = river.way(point)
        take = min(amount, min([flow[passed] for passed in way]))
        for passed in way:
            flow[passed] -= take
        takes.append(take)
    return (takes, flow)


def wants_of(book):
    """What the rights want and where, the oldest first."""
    return [book.right(name)[:2] for name in book.names()]


def dealt(book, year):
    takes = serve(book.river(), year, wants_of(book))[0]
    return list(zip(book.names(), takes))


def left(book, year):
    return serve(book.river(), year, wants_of(book))[1]


def short(book, year):
    return [name for name, take in dealt(book, year) if take < book.right(name)[1]]


def dry(book, year, name):
    # A bad year goes ahead of a right that is not there, so the year is dealt first.
    short_ones = short(book, year)
    point = book.right(name)[0]
    if name not in short_ones:
        raise NotShort(f"the right {name!r} is not short")
    flow = left(book, year)
    dry_points = [passed for passed in book.river().way(point) if flow[passed] == 0]
    return dry_points[0]


def shut(book, year, name):
    above = book.river().above(dry(book, year, name))
    names = book.names()
    younger = names[names.index(name) + 1:]
    return [other for other in younger if wants_among(book.right(other), above)]


def wants_among(right, points):
    return right[1] > 0 and right[0] in points
