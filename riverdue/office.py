"""The office: days of water for a book's rights and for ponds, and what is kept of them."""

from riverdue.dealing import serve
from riverdue.errors import NoPond, NotBelow, Taken, TooMuch

# Of the same date and name, a right goes ahead of a pond.
RANK_OF_RIGHT = 0
RANK_OF_POND = 1


class Pond:
    def __init__(self, point, size, date):
        self.point = point
        self.size = size
        self.date = date
        self.held_water = 0


class Office:
    def __init__(self, book):
        self.book = book
        self.ponds = {}
        self.last_day = {}
        self.all_days = {}
        self.ran_out = 0

    def dig(self, name, point, size, date):
        if name in self.ponds:
            raise Taken(f"there is a pond {name!r}")
        self.book.river().check_point(point)
        self.ponds[name] = Pond(point, size, date)
        return len(self.ponds)

    def day(self, year):
        wants = self.wants_by_age()
        served = serve(self.book.river(), year, [want[3:] for want in wants])
        rights = takes_of_rank(wants, served[0], RANK_OF_RIGHT)
        ponds = takes_of_rank(wants, served[0], RANK_OF_POND)
        self.last_day = {}
        for name, take in rights:
            self.give(name, take)
        for name, take in ponds:
            pond = self.ponds[name]
            pond.held_water += take
        self.ran_out += served[1][0]
        return (rights, ponds)

    def send(self, pond, name, amount):
        source = self.pond_called(pond)
        right = self.book.right(name)
        if right[0] not in self.book.river().way(source.point):
            raise NotBelow("the right's point does not lie below the pond")
        lacks = max(0, right[1] - self.got(name))
        if amount > source.held_water:
            raise TooMuch("the amount is more than what is stored")
        if amount > lacks:
            raise TooMuch("the amount is more than what the right lacks")
        source.held_water -= amount
        self.give(name, amount)
        return source.held_water

    def stored(self, pond):
        return self.pond_called(pond).held_water

    def got(self, name):
        self.book.right(name)
        return self.last_day.get(name, 0)

    def account(self, name):
        self.book.right(name)
        return self.all_days.get(name, 0)

    def out(self):
        return self.ran_out

    def pond_called(self, name):
        if name not in self.ponds:
            raise NoPond(f"there is no pond {name!r}")
        return self.ponds[name]

    def give(self, name, amount):
        self.last_day[name] = self.last_day.get(name, 0) + amount
        self.all_days[name] = self.all_days.get(name, 0) + amount

    def wants_by_age(self):
        """What rights and ponds want, the oldest first: tuples of date, name, rank, point and amount."""
        wants = []
        for name in self.book.names():
            right = self.book.right(name)
            wants.append((right[2], name, RANK_OF_RIGHT, right[0], right[1]))
        for name, pond in self.ponds.items():
            wants.append((pond.date, name, RANK_OF_POND, pond.point, pond.size - pond.held_water))
        return sorted(wants)


def takes_of_rank(wants, takes, rank):
    return [(want[1], take) for want, take in zip(wants, takes) if want[2] == rank]
