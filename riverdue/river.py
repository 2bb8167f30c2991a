"""A river's points, the ways of their water, and the flows of a year."""

from riverdue.errors import BadRiver, BadYear, NoPoint

MOST_POINTS = 40
MOST_INFLOW = 1000000


class River:
    def __init__(self, below):
        check_below(below)
        self.runs_to = list(below)

    def points(self):
        return len(self.runs_to)

    def check_point(self, point):
        # The words leave the number out: Python writes no number of some thousand figures.
        if point < 0 or point >= len(self.runs_to):
            raise NoPoint("the river has no such point")

    def below(self, point):
        self.check_point(point)
        return self.runs_to[point]

    def way(self, point):
        self.check_point(point)
        passed = []
        while point is not None:
            passed.append(point)
            point = self.runs_to[point]
        return passed

    def above(self, point):
        self.check_point(point)
        return [other for other in range(self.points()) if point in self.way(other)]


def check_below(below):
    if len(below) < 1 or len(below) > MOST_POINTS:
        raise BadRiver("a river has 1 to 40 points")
    if below[0] is not None:
        raise BadRiver("nothing lies below the mouth")
    for point in range(1, len(below)):
        lower = below[point]
        if lower is None or lower < 0 or lower >= point:
            raise BadRiver("each point but the mouth has a point of a lesser number below it")


def check_year(river, year):
    if len(year) != river.points():
        raise BadYear("a year has one inflow for each point")
    for inflow in year:
        if inflow < 0 or inflow > MOST_INFLOW:
            raise BadYear("an inflow is from 0 to 1000000")


def flows(river, year, taken):
    check_year(river, year)
    found = [inflow - gone for inflow, gone in zip(year, taken)]
    # Water runs to lesser numbers only, so from the greatest down each flow is whole when it is passed on.
    for point in range(river.points() - 1, 0, -1):
        found[river.below(point)] += found[point]
    return found
