from riverdue.errors import BadRiver, BadYear, NoPoint
from riverdue.river import River, flows
from tests.helper import (
    BRANCHED,
    CHAIN,
    STAR,
    RefusalCase,
    above_by_words,
    all_small_rivers,
    no_points,
    way_by_words,
)


def chain_of(count):
    return [None, *range(count - 1)]


def star_of(count):
    return [None] + [0] * (count - 1)


class MakingTest(RefusalCase):
    def test_one_point(self):
        river = River([None])
        self.assertEqual(river.points(), 1)
        self.assertIsNone(river.below(0))

    def test_forty_points(self):
        for below in (chain_of(40), star_of(40)):
            self.assertEqual(River(below).points(), 40)

    def test_too_short_and_too_long(self):
        for below in ([], chain_of(41), star_of(41), star_of(60)):
            with self.subTest(count=len(below)):
                self.assert_refused(BadRiver, River, below)

    def test_mouth_is_none(self):
        for below in ([0], [-1], [1, 0], [0, 0], [0, 0, 1], [5, 0], ["-"], [[]], [False, 0]):
            with self.subTest(below):
                self.assert_refused(BadRiver, River, below)

    def test_another_point_with_a_bad_point_below(self):
        for bad in (None, -1, -2, -(10 ** 5000), 10 ** 5000):
            for point in range(1, 6):
                below = chain_of(6)
                below[point] = bad
                with self.subTest(point=point):
                    self.assert_refused(BadRiver, River, below)

    def test_another_point_with_its_own_number_or_a_greater_one(self):
        for point in range(1, 6):
            for bad in range(point, 8):
                below = star_of(6)
                below[point] = bad
                with self.subTest(below):
                    self.assert_refused(BadRiver, River, below)

    def test_only_none(self):
        self.assert_refused(BadRiver, River, [None, None])

    def test_the_list_stays_as_it_was(self):
        for below in ([None], CHAIN, STAR, BRANCHED):
            handed = list(below)
            river = River(handed)
            for point in range(len(below)):
                river.below(point)
                river.way(point)
                river.above(point)
            flows(river, [1] * len(below), [0] * len(below))
            self.assertEqual(handed, below)

    def test_a_refused_list_stays_as_it_was(self):
        handed = [None, 0, 2]
        self.assert_refused(BadRiver, River, handed)
        self.assertEqual(handed, [None, 0, 2])

    def test_changing_the_list_later_changes_no_river(self):
        handed = list(BRANCHED)
        river = River(handed)
        handed[3] = 0
        handed.append(0)
        self.assertEqual(river.points(), 7)
        self.assertEqual(river.below(3), 1)
        self.assertEqual(river.way(6), [6, 3, 1, 0])
        self.assertEqual(river.above(1), [1, 3, 4, 6])
        self.assertEqual(flows(river, [1] * 7, [0] * 7), [7, 4, 2, 2, 1, 1, 1])
        handed.clear()
        self.assertEqual(river.points(), 7)


class WayTest(RefusalCase):
    def assert_tells(self, below, ways, aboves):
        river = River(below)
        points = range(len(below))
        self.assertEqual(river.points(), len(below))
        self.assertEqual([river.below(point) for point in points], below)
        self.assertEqual([river.way(point) for point in points], ways)
        self.assertEqual([river.above(point) for point in points], aboves)

    def test_mouth_alone(self):
        self.assert_tells([None], [[0]], [[0]])

    def test_chain(self):
        ways = [[0], [1, 0], [2, 1, 0], [3, 2, 1, 0], [4, 3, 2, 1, 0]]
        aboves = [[0, 1, 2, 3, 4], [1, 2, 3, 4], [2, 3, 4], [3, 4], [4]]
        self.assert_tells(CHAIN, ways, aboves)

    def test_star(self):
        ways = [[0], [1, 0], [2, 0], [3, 0], [4, 0]]
        aboves = [[0, 1, 2, 3, 4], [1], [2], [3], [4]]
        self.assert_tells(STAR, ways, aboves)

    def test_branches(self):
        ways = [[0], [1, 0], [2, 0], [3, 1, 0], [4, 1, 0], [5, 2, 0], [6, 3, 1, 0]]
        aboves = [[0, 1, 2, 3, 4, 5, 6], [1, 3, 4, 6], [2, 5], [3, 6], [4], [5], [6]]
        self.assert_tells(BRANCHED, ways, aboves)

    def test_every_small_river(self):
        for below in all_small_rivers(6):
            points = range(len(below))
            ways = [way_by_words(below, point) for point in points]
            aboves = [above_by_words(below, point) for point in points]
            self.assert_tells(below, ways, aboves)

    def test_the_longest_chain(self):
        river = River(chain_of(40))
        self.assertEqual(river.way(39), list(range(39, -1, -1)))
        self.assertEqual(river.above(0), list(range(40)))

    def test_no_such_point(self):
        for below in ([None], CHAIN, STAR, BRANCHED, chain_of(40)):
            river = River(below)
            for point in no_points(len(below)):
                with self.subTest(count=len(below), figures=point.bit_length()):
                    self.assert_refused(NoPoint, river.below, point)
                    self.assert_refused(NoPoint, river.way, point)
                    self.assert_refused(NoPoint, river.above, point)

    def test_changing_what_was_told_changes_nothing(self):
        river = River(BRANCHED)
        for point in range(7):
            for tell in (river.way, river.above):
                first = tell(point)
                kept = list(first)
                first.append(99)
                first[0] = 98
                self.assertEqual(tell(point), kept)
                first.clear()
                self.assertEqual(tell(point), kept)
        self.assertEqual(river.points(), 7)
        self.assertEqual([river.below(point) for point in range(7)], BRANCHED)


class FlowsTest(RefusalCase):
    def test_nothing_taken(self):
        self.assertEqual(flows(River([None]), [7], [0]), [7])
        self.assertEqual(flows(River(CHAIN), [1, 2, 4, 8, 16], [0] * 5), [31, 30, 28, 24, 16])
        self.assertEqual(flows(River(STAR), [1, 2, 4, 8, 16], [0] * 5), [31, 2, 4, 8, 16])
        self.assertEqual(flows(River(BRANCHED), [1, 2, 4, 8, 16, 32, 64], [0] * 7), [127, 90, 36, 72, 16, 32, 64])

    def test_taken_at_several_points(self):
        self.assertEqual(flows(River(CHAIN), [1, 2, 4, 8, 16], [0, 3, 0, 5, 10]), [13, 12, 13, 9, 6])
        self.assertEqual(flows(River(STAR), [1, 2, 4, 8, 16], [9, 2, 1, 0, 4]), [15, 0, 3, 8, 12])
        taken = [5, 0, 4, 1, 6, 2, 64]
        self.assertEqual(flows(River(BRANCHED), [1, 2, 4, 8, 16, 32, 64], taken), [45, 19, 30, 7, 10, 30, 0])

    def test_more_taken_than_comes_in(self):
        self.assertEqual(flows(River([None]), [7], [10]), [-3])
        self.assertEqual(flows(River(CHAIN), [0, 0, 10, 0, 1], [0, 0, 0, 5, 0]), [6, 6, 6, -4, 1])
        self.assertEqual(flows(River(STAR), [0] * 5, [0, 1000000, 0, 0, 1]), [-1000001, -1000000, 0, 0, -1])

    def test_every_small_river_by_the_words(self):
        for below in all_small_rivers(6):
            year = [3 ** point for point in range(len(below))]
            taken = [(7 * point + 5) % 11 for point in range(len(below))]
            wanted = [
                sum(year[other] for other in above_by_words(below, point))
                - sum(taken[other] for other in above_by_words(below, point))
                for point in range(len(below))
            ]
            self.assertEqual(flows(River(below), year, taken), wanted)

    def test_least_and_greatest_inflows_are_good(self):
        self.assertEqual(flows(River(CHAIN), [0] * 5, [0] * 5), [0] * 5)
        wanted = [1000000 * count for count in (5, 4, 3, 2, 1)]
        self.assertEqual(flows(River(CHAIN), [1000000] * 5, [0] * 5), wanted)
        self.assertEqual(flows(River(star_of(40)), [1000000] * 40, [0] * 40), [40000000] + [1000000] * 39)

    def test_year_of_another_length(self):
        for below in ([None], CHAIN, STAR, BRANCHED):
            river = River(below)
            count = len(below)
            for length in (0, count - 1, count + 1, count + 5):
                with self.subTest(count=count, length=length):
                    self.assert_refused(BadYear, flows, river, [1] * length, [0] * count)

    def test_inflow_out_of_bounds(self):
        for bad in (-1, 1000001, -(10 ** 5000), 10 ** 5000):
            for point in range(5):
                year = [1] * 5
                year[point] = bad
                with self.subTest(point=point, figures=bad.bit_length()):
                    self.assert_refused(BadYear, flows, River(CHAIN), year, [0] * 5)

    def test_both_lists_stay_as_they_were(self):
        year = [1, 2, 4, 8, 16]
        taken = [5, 4, 3, 2, 1]
        flows(River(CHAIN), year, taken)
        self.assertEqual((year, taken), ([1, 2, 4, 8, 16], [5, 4, 3, 2, 1]))
        year[4] = 1000001
        self.assert_refused(BadYear, flows, River(CHAIN), year, taken)
        self.assertEqual((year, taken), ([1, 2, 4, 8, 1000001], [5, 4, 3, 2, 1]))

    def test_changing_lists_later_changes_nothing(self):
        river = River(CHAIN)
        year = [1, 2, 4, 8, 16]
        taken = [0] * 5
        first = flows(river, year, taken)
        year[0] = 100
        taken[0] = 50
        self.assertEqual(first, [31, 30, 28, 24, 16])
        first.clear()
        self.assertEqual((year, taken), ([100, 2, 4, 8, 16], [50, 0, 0, 0, 0]))
        self.assertEqual(flows(river, [1, 2, 4, 8, 16], [0] * 5), [31, 30, 28, 24, 16])
