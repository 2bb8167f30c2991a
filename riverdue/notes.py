"""A book written in lines, and read from them."""

from riverdue.errors import BadRiver, BadText, NoPoint, Taken
from riverdue.rights import MOST_AMOUNT, Book
from riverdue.river import MOST_POINTS, River

MOST_RIGHTS = 40
MOST_LETTERS = 8
MOST_DATE = 9999
LETTERS = "abcdefghijklmnopqrstuvwxyz"
FIGURES = "0123456789"


def shown(book):
    lines = [right_line(book, name) for name in book.names()]
    return "\n".join([river_line(book.river())] + lines)


def river_line(river):
    lower = [river.below(point) for point in range(river.points())]
    return " ".join(["river"] + ["-" if point is None else str(point) for point in lower])


def right_line(book, name):
    right = book.right(name)
    point = right[0]
    amount = right[1]
    date = right[2]
    return f"{name} at {point} wants {amount} since {date}"


def read(text):
    lines = text.split("\n")
    if len(lines) > 1 + MOST_RIGHTS:
        raise BadText("a book has at most 40 rights")
    book = Book(read_river(lines[0]))
    for line in lines[1:]:
        read_right(book, line)
    # This refuses a nought ahead of a number and rights that stand in another order.
    if shown(book) != text:
        raise BadText("a book is not written so")
    return book


def read_river(line):
    words = line.split(" ")
    if words[0] != "river":
        raise BadText("the first line tells the river")
    below = [None if word == "-" else read_number(word, MOST_POINTS) for word in words[1:]]
    try:
        return River(below)
    except BadRiver as e:
        raise BadText("the first line tells no river") from e


def read_right(book, line):
    words = line.split(" ")
    if len(words) != 7 or [words[1], words[3], words[5]] != ["at", "wants", "since"]:
        raise BadText("a line behind the first tells a right")
    name = read_name(words[0])
    point = read_number(words[2], MOST_POINTS)
    amount = read_number(words[4], MOST_AMOUNT)
    date = read_number(words[6], MOST_DATE)
    try:
        book.grant(name, point, amount, date)
    except (Taken, NoPoint) as e:
        raise BadText("a right has a name of its own and a point of the river") from e


def read_name(word):
    if len(word) < 1 or len(word) > MOST_LETTERS or not all([sign in LETTERS for sign in word]):
        raise BadText("a name has 1 to 8 small letters")
    return word


def read_number(word, most):
    # How long it is comes first: Python reads no number of some thousand figures.
    if len(word) < 1 or len(word) > len(str(most)) or not all([sign in FIGURES for sign in word]):
        raise BadText("a number is written by figures, and no greater than its bound")
    number = int(word)
    if number > most:
        raise BadText("a number is no greater than its bound")
    return number
