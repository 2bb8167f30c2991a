"""Another point for a right, where no other right is harmed by it."""

from riverdue.dealing import serve, wants_of
from riverdue.errors import Harm


def harmed(book, years, name, point):
    book.right(name)
    river = book.river()
    river.check_point(point)
    names = book.names()
    now = wants_of(book)
    changed = wants_with(book, name, point)
    found = {}
    # Every year is served, and so refused if it is none, ahead of any answer.
    for year in years:
        takes_now = serve(river, year, now)[0]
        takes_then = serve(river, year, changed)[0]
        for other, take_now, take_then in zip(names, takes_now, takes_then):
            if other != name and take_then < take_now:
                found[other] = True
    return [other for other in names if other in found]


def wants_with(book, name, point):
    """What the rights would want and where, if the right of this name took at the point."""
    wants = wants_of(book)
    place = book.names().index(name)
    wants[place] = (point, wants[place][1])
    return wants


def move(book, years, name, point):
    if len(harmed(book, years, name, point)) > 0:
        raise Harm("another right would take less")
    right = book.right(name)
    # Nothing is tied to a right but by its name, so this is the same right at another point.
    book.drop(name)
    book.grant(name, point, right[1], right[2])
    return right[0]
