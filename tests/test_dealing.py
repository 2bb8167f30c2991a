from riverdue.dealing import dealt, dry, left, short, shut
from riverdue.errors import BadYear, NoRight, NotShort
from tests.helper import (
    BRANCHED,
    CHAIN,
    STAR,
    BookCase,
    above_by_words,
    all_small_rivers,
    bad_years,
    book_of,
    told,
    way_by_words,
)


def flow_by_words(below, year, taken, point):
    return sum(year[other] - taken[other] for other in above_by_words(below, point))


def dealt_by_words(below, year, rights):
    """What rights, told by name, point, amount and date, take, and the flows behind it."""
    taken = [0] * len(below)
    takes = []
    for name, point, amount, date in sorted(rights, key=lambda right: (right[3], right[0])):
        least = min(flow_by_words(below, year, taken, passed) for passed in way_by_words(below, point))
        take = amount if amount <= least else least
        taken[point] += take
        takes.append((name, take))
    return takes, [flow_by_words(below, year, taken, point) for point in range(len(below))]


def branched_book():
    return book_of(
        BRANCHED,
        ("h", 6, 0, 6),
        ("g", 2, 1, 5),
        ("f", 0, 9, 4),
        ("e", 5, 40, 3),
        ("d", 3, 5, 3),
        ("c", 4, 20, 2),
        ("b", 1, 30, 2),
        ("a", 6, 50, 1),
    )


BRANCHED_YEAR = [1, 2, 4, 8, 16, 32, 64]


class DealingCase(BookCase):
    def assert_deals(self, book, year, takes, rest):
        self.assertEqual(dealt(book, year), takes)
        self.assertEqual(left(book, year), rest)

    def assert_short(self, book, year, dry_points, shut_ones):
        """The dry point and the shut ones of each short right; all others are not short."""
        self.assertEqual(short(book, year), list(dry_points))
        for name in book.names():
            with self.subTest(name):
                if name in dry_points:
                    self.assertEqual(dry(book, year, name), dry_points[name])
                    self.assertEqual(shut(book, year, name), shut_ones.get(name, []))
                else:
                    self.assert_refused_unchanged(NotShort, book, dry, book, year, name)
                    self.assert_refused_unchanged(NotShort, book, shut, book, year, name)


class OneRightTest(DealingCase):
    def test_more_than_enough(self):
        book = book_of([None], ("a", 0, 10, 5))
        self.assert_deals(book, [11], [("a", 10)], [1])
        self.assert_short(book, [11], {}, {})

    def test_just_enough(self):
        book = book_of([None], ("a", 0, 10, 5))
        self.assert_deals(book, [10], [("a", 10)], [0])
        self.assert_short(book, [10], {}, {})

    def test_too_little(self):
        book = book_of([None], ("a", 0, 10, 5))
        self.assert_deals(book, [9], [("a", 9)], [0])
        self.assert_short(book, [9], {"a": 0}, {})

    def test_nothing(self):
        book = book_of([None], ("a", 0, 10, 5))
        self.assert_deals(book, [0], [("a", 0)], [0])
        self.assert_short(book, [0], {"a": 0}, {})

    def test_an_amount_of_0_is_never_short(self):
        book = book_of([None, 0], ("a", 1, 0, 5))
        self.assert_deals(book, [0, 0], [("a", 0)], [0, 0])
        self.assert_short(book, [0, 0], {}, {})
        self.assert_deals(book, [3, 4], [("a", 0)], [7, 4])
        self.assert_short(book, [3, 4], {}, {})

    def test_what_is_taken_is_gone_on_the_whole_way(self):
        book = book_of(CHAIN, ("a", 2, 6, 5))
        self.assert_deals(book, [1, 2, 4, 8, 16], [("a", 6)], [25, 24, 22, 24, 16])

    def test_what_comes_in_below_does_not_help(self):
        book = book_of(CHAIN, ("a", 3, 6, 5))
        self.assert_deals(book, [9, 9, 9, 1, 2], [("a", 3)], [27, 18, 9, 0, 2])
        self.assert_short(book, [9, 9, 9, 1, 2], {"a": 3}, {})

    def test_what_comes_in_beside_does_not_help(self):
        book = book_of(STAR, ("a", 1, 6, 5))
        self.assert_deals(book, [9, 1, 9, 9, 9], [("a", 1)], [36, 0, 9, 9, 9])
        self.assert_short(book, [9, 1, 9, 9, 9], {"a": 1}, {})

    def test_greatest_numbers(self):
        book = book_of(CHAIN, ("a", 4, 1000000, 9999), ("b", 0, 1000000, 9999))
        takes = [("a", 1000000), ("b", 1000000)]
        self.assert_deals(book, [1000000] * 5, takes, [3000000, 3000000, 2000000, 1000000, 0])


class ManyRightsTest(DealingCase):
    def test_an_empty_book(self):
        book = book_of(CHAIN)
        self.assert_deals(book, [1, 2, 4, 8, 16], [], [31, 30, 28, 24, 16])
        self.assertEqual(short(book, [0] * 5), [])

    def test_pairs_are_tuples(self):
        told_pairs = dealt(book_of([None], ("a", 0, 10, 5)), [7])
        self.assertIsInstance(told_pairs, list)
        self.assertIsInstance(told_pairs[0], tuple)

    def test_the_same_date_goes_by_name(self):
        book = book_of([None], ("c", 0, 4, 5), ("a", 0, 4, 5), ("b", 0, 4, 5))
        self.assert_deals(book, [9], [("a", 4), ("b", 4), ("c", 1)], [0])
        self.assert_short(book, [9], {"c": 0}, {})
        self.assert_deals(book, [5], [("a", 4), ("b", 1), ("c", 0)], [0])
        self.assert_short(book, [5], {"b": 0, "c": 0}, {"b": ["c"]})
        self.assert_deals(book, [0], [("a", 0), ("b", 0), ("c", 0)], [0])
        self.assert_short(book, [0], {"a": 0, "b": 0, "c": 0}, {"a": ["b", "c"], "b": ["c"]})

    def test_the_date_goes_ahead_of_the_name(self):
        book = book_of([None], ("a", 0, 4, 1000), ("b", 0, 4, 999))
        self.assert_deals(book, [6], [("b", 4), ("a", 2)], [0])

    def test_an_older_one_below_a_younger_one(self):
        book = book_of(CHAIN, ("up", 4, 10, 2), ("down", 0, 10, 1), ("mid", 2, 5, 3))
        year = [0, 0, 0, 0, 12]
        self.assert_deals(book, year, [("down", 10), ("up", 2), ("mid", 0)], [0, 10, 10, 10, 10])
        self.assert_short(book, year, {"up": 0, "mid": 0}, {"up": ["mid"]})

    def test_an_older_one_above_a_younger_one(self):
        book = book_of(CHAIN, ("up", 4, 10, 0), ("down", 0, 10, 1), ("mid", 2, 5, 3))
        year = [0, 0, 0, 0, 12]
        self.assert_deals(book, year, [("up", 10), ("down", 2), ("mid", 0)], [0, 2, 2, 2, 2])
        self.assert_short(book, year, {"down": 0, "mid": 0}, {"down": ["mid"]})

    def test_two_beside_each_other_and_an_older_one_below_both(self):
        book = book_of(STAR, ("a", 1, 4, 2), ("b", 2, 4, 2), ("mouth", 0, 9, 1))
        year = [0, 5, 7, 0, 0]
        self.assert_deals(book, year, [("mouth", 9), ("a", 3), ("b", 0)], [0, 2, 7, 0, 0])
        self.assert_short(book, year, {"a": 0, "b": 0}, {"a": ["b"]})

    def test_two_beside_each_other_and_nothing_below(self):
        book = book_of(STAR, ("a", 1, 4, 1), ("b", 2, 4, 2))
        self.assert_deals(book, [0, 3, 9, 0, 0], [("a", 3), ("b", 4)], [5, 0, 5, 0, 0])
        self.assert_short(book, [0, 3, 9, 0, 0], {"a": 1}, {})

    def test_dry_points_along_a_chain(self):
        rights = (("a", 4, 1, 0), ("b", 3, 5, 1), ("c", 0, 9, 2), ("d", 2, 1, 3), ("e", 4, 0, 4), ("f", 4, 2, 5))
        book = book_of(CHAIN, *rights)
        year = [5, 0, 0, 3, 0]
        takes = [("a", 0), ("b", 3), ("c", 5), ("d", 0), ("e", 0), ("f", 0)]
        self.assert_deals(book, year, takes, [0, 0, 0, 0, 0])
        dry_points = {"a": 4, "b": 3, "c": 0, "d": 2, "f": 4}
        self.assert_short(book, year, dry_points, {"a": ["f"], "b": ["f"], "c": ["d", "f"], "d": ["f"]})

    def test_branches(self):
        takes = [("a", 50), ("b", 30), ("c", 10), ("d", 0), ("e", 32), ("f", 5), ("g", 0), ("h", 0)]
        book = branched_book()
        self.assert_deals(book, BRANCHED_YEAR, takes, [0, 0, 4, 22, 6, 0, 14])
        dry_points = {"c": 1, "d": 1, "e": 5, "f": 0, "g": 0}
        self.assert_short(book, BRANCHED_YEAR, dry_points, {"c": ["d"], "f": ["g"]})

    def test_older_ones_and_amounts_of_0_are_not_shut(self):
        book = book_of([None, 0], ("old", 1, 2, 1), ("mid", 0, 9, 2), ("none", 1, 0, 3), ("z", 1, 1, 4), ("y", 0, 1, 5))
        year = [3, 4]
        takes = [("old", 2), ("mid", 5), ("none", 0), ("z", 0), ("y", 0)]
        self.assert_deals(book, year, takes, [0, 2])
        self.assert_short(book, year, {"mid": 0, "z": 0, "y": 0}, {"mid": ["z", "y"], "z": ["y"]})

    def test_every_small_river_by_the_words(self):
        for below in all_small_rivers(5):
            count = len(below)
            year = [(5 * point + 3) % 7 for point in range(count)]
            places = [3 * place % count for place in range(6)]
            rights = [(name, places[place], (4 * place + 1) % 6, 3 * place % 4) for place, name in enumerate("fadcbe")]
            book = book_of(below, *rights)
            takes, rest = dealt_by_words(below, year, rights)
            self.assert_deals(book, year, takes, rest)
            names = [name for name, take in takes]
            short_ones = [name for name, take in takes if take < book.right(name)[1]]
            self.assertEqual(short(book, year), short_ones)
            for name in short_ones:
                way = way_by_words(below, book.right(name)[0])
                dry_point = next(point for point in way if rest[point] == 0)
                above = above_by_words(below, dry_point)
                younger = names[names.index(name) + 1:]
                shut_ones = [other for other in younger if book.right(other)[1] > 0 and book.right(other)[0] in above]
                self.assertEqual(dry(book, year, name), dry_point)
                self.assertEqual(shut(book, year, name), shut_ones)
                self.assertEqual([dict(takes)[other] for other in shut_ones], [0] * len(shut_ones))

    def test_a_changed_book_is_dealt_as_it_is(self):
        book = book_of([None], ("a", 0, 4, 5), ("b", 0, 4, 6))
        self.assertEqual(dealt(book, [6]), [("a", 4), ("b", 2)])
        book.part("a", "c", 3)
        self.assertEqual(dealt(book, [6]), [("a", 1), ("c", 3), ("b", 2)])
        book.drop("c")
        self.assertEqual(dealt(book, [6]), [("a", 1), ("b", 4)])
        self.assertEqual(left(book, [6]), [1])


class RefusedTest(DealingCase):
    def test_bad_year(self):
        for below in ([None], CHAIN, BRANCHED):
            for book in (book_of(below), book_of(below, ("a", 0, 5, 5)), book_of(below, ("a", 0, 0, 5))):
                for year in bad_years(len(below)):
                    handed = list(year)
                    for ask in (dealt, left, short):
                        self.assert_refused_unchanged(BadYear, book, ask, book, handed)
                    self.assertEqual(handed, year)

    def test_bad_year_goes_ahead_of_no_right_and_not_short(self):
        book = book_of(CHAIN, ("a", 0, 5, 5), ("none", 0, 0, 5))
        for year in bad_years(5):
            for name in ("a", "none", "gone"):
                self.assert_refused_unchanged(BadYear, book, dry, book, year, name)
                self.assert_refused_unchanged(BadYear, book, shut, book, year, name)

    def test_no_right(self):
        book = book_of(CHAIN, ("a", 0, 5, 5))
        for year in ([0] * 5, [9] * 5):
            self.assert_refused_unchanged(NoRight, book, dry, book, year, "gone")
            self.assert_refused_unchanged(NoRight, book, shut, book, year, "gone")
        self.assert_refused(NoRight, dry, book_of([None]), [0], "a")
        self.assert_refused(NoRight, shut, book_of([None]), [0], "a")

    def test_not_short_even_at_a_dry_point(self):
        book = book_of([None], ("a", 0, 5, 5), ("b", 0, 0, 6))
        for name in ("a", "b"):
            self.assert_refused_unchanged(NotShort, book, dry, book, [5], name)
            self.assert_refused_unchanged(NotShort, book, shut, book, [5], name)


class ListsTest(DealingCase):
    def asked(self, book, year):
        return [dealt(book, year), left(book, year), short(book, year), shut(book, year, "c"), dry(book, year, "c")]

    def test_what_is_handed_in_stays_as_it_was(self):
        book = branched_book()
        before = told(book)
        year = list(BRANCHED_YEAR)
        self.asked(book, year)
        self.assertEqual(year, BRANCHED_YEAR)
        self.assertEqual(told(book), before)

    def test_changing_what_was_told_changes_nothing(self):
        book = branched_book()
        before = self.asked(book, BRANCHED_YEAR)
        for answer in self.asked(book, BRANCHED_YEAR)[:4]:
            self.assertIsInstance(answer, list)
            answer.append(99)
            answer[0] = 98
        self.assertEqual(self.asked(book, BRANCHED_YEAR), before)

    def test_changing_the_year_later_changes_nothing_told(self):
        book = branched_book()
        year = list(BRANCHED_YEAR)
        first = self.asked(book, year)
        year[4] = 0
        year.append(5)
        self.assertEqual(first, self.asked(book, BRANCHED_YEAR))

    def test_the_rest_of_an_empty_book_is_no_list_that_was_handed_in(self):
        year = [7]
        rest = left(book_of([None]), year)
        rest[0] = 0
        self.assertEqual(year, [7])
