"""The book of a river's rights, kept by name and told by age."""

from riverdue.errors import NoRight, Taken, TooMuch, Unlike

MOST_AMOUNT = 1000000


class Right:
    def __init__(self, point, amount, date):
        self.point = point
        self.amount = amount
        self.date = date


class Book:
    def __init__(self, river):
        self.stream = river
        self.held = {}

    def river(self):
        return self.stream

    def names(self):
        return sorted(self.held, key=lambda name: (self.held[name].date, name))

    def right(self, name):
        found = self.held_right(name)
        return (found.point, found.amount, found.date)

    def grant(self, name, point, amount, date):
        self.check_free(name)
        self.stream.check_point(point)
        self.held[name] = Right(point, amount, date)
        return len(self.held)

    def drop(self, name):
        self.held_right(name)
        self.held.pop(name)
        return len(self.held)

    def part(self, name, other, amount):
        whole = self.held_right(name)
        self.check_free(other)
        if amount > whole.amount:
            raise TooMuch("the part is more than the right's amount")
        whole.amount -= amount
        self.held[other] = Right(whole.point, amount, whole.date)
        return len(self.held)

    def unite(self, name, other):
        first = self.held_right(name)
        second = self.held_right(other)
        if name == other:
            raise Unlike("a right is not united with itself")
        if first.point != second.point or first.date != second.date:
            raise Unlike("the rights differ in point or date")
        if first.amount + second.amount > MOST_AMOUNT:
            raise Unlike("the amounts come to more than 1000000")
        first.amount += second.amount
        self.held.pop(other)
        return len(self.held)

    def held_right(self, name):
        if name not in self.held:
            raise NoRight(f"there is no right {name!r}")
        return self.held[name]

    def check_free(self, name):
        if name in self.held:
            raise Taken(f"there is a right {name!r}")
