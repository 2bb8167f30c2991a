from riverdue.changes import harmed, move
from riverdue.dealing import dealt
from riverdue.errors import BadYear, Harm, NoPoint, NoRight
from tests.helper import BookCase, all_small_rivers, bad_years, book_of, no_points, told, told_rights

FORK = [None, 0, 0]
FORK_RIGHTS = (("c", 1, 5, 1), ("b", 2, 5, 2), ("a", 2, 5, 3))
# Here c takes 5 at point 1, b 5 at point 2, a nothing; with c at point 2, b takes nothing.
EVEN_YEAR = [0, 5, 5]
# Here c takes nothing at point 1, b and a 5 each; with c at point 2, a takes nothing.
ONE_SIDED_YEAR = [0, 0, 10]


def fork_book():
    return book_of(FORK, *FORK_RIGHTS)


def harmed_by_words(below, rights, years, name, point):
    now = book_of(below, *rights)
    then = book_of(below, *[(right[0], point, *right[2:]) if right[0] == name else right for right in rights])
    found = set()
    for year in years:
        takes_then = dict(dealt(then, year))
        found |= {other for other, take in dealt(now, year) if takes_then[other] < take}
    return [other for other in now.names() if other in found - {name}]


class ChangesCase(BookCase):
    def assert_harms(self, book, years, name, point, wanted):
        self.assertEqual(harmed(book, years, name, point), wanted)
        if wanted:
            self.assert_refused_unchanged(Harm, book, move, book, years, name, point)

    def assert_moves(self, book, years, name, point):
        old_point, amount, date = book.right(name)
        wanted = [(other, (point, amount, date) if other == name else right) for other, right in told_rights(book)]
        self.assertEqual(harmed(book, years, name, point), [])
        self.assertEqual(move(book, years, name, point), old_point)
        self.assertEqual(told_rights(book), wanted)


class HarmTest(ChangesCase):
    def test_one_right_harms_none(self):
        for point in range(3):
            book = book_of(FORK, ("a", 1, 5, 1))
            self.assert_moves(book, [EVEN_YEAR, ONE_SIDED_YEAR, [0, 0, 0]], "a", point)

    def test_another_right_would_take_less(self):
        self.assert_harms(fork_book(), [EVEN_YEAR], "c", 2, ["b"])
        self.assert_harms(fork_book(), [ONE_SIDED_YEAR], "c", 2, ["a"])

    def test_in_one_of_the_years(self):
        self.assert_harms(fork_book(), [[0, 0, 0], [0, 20, 20], EVEN_YEAR], "c", 2, ["b"])
        self.assert_harms(fork_book(), [EVEN_YEAR, [0, 20, 20]], "c", 2, ["b"])
        self.assert_harms(fork_book(), [EVEN_YEAR] * 6, "c", 2, ["b"])

    def test_several_are_told_by_age_and_once(self):
        self.assert_harms(fork_book(), [ONE_SIDED_YEAR, EVEN_YEAR, ONE_SIDED_YEAR], "c", 2, ["b", "a"])

    def test_harm_in_one_year_is_not_made_good_in_another(self):
        book = book_of(FORK, ("a", 1, 5, 1), ("b", 1, 5, 2), ("c", 2, 5, 2))
        self.assert_harms(book, [[0, 5, 5]], "a", 2, ["c"])
        self.assert_harms(book, [[0, 5, 10], [0, 5, 5], [0, 10, 10]], "a", 2, ["c"])
        self.assert_moves(book, [[0, 5, 10], [0, 10, 10]], "a", 2)

    def test_an_older_right_moved_up_the_river(self):
        book = book_of([None, 0], ("a", 0, 5, 1), ("b", 1, 5, 2))
        self.assert_harms(book, [[5, 5]], "a", 1, ["b"])
        self.assert_harms(book, [[5, 9]], "a", 1, ["b"])
        self.assert_moves(book, [[5, 10]], "a", 1)

    def test_a_younger_right_harms_no_older_one(self):
        for point in range(3):
            self.assert_moves(fork_book(), [EVEN_YEAR, ONE_SIDED_YEAR], "a", point)

    def test_the_right_itself_is_not_among_the_harmed(self):
        book = book_of(FORK, ("a", 1, 5, 1), ("b", 2, 5, 2))
        self.assert_moves(book, [EVEN_YEAR], "b", 1)
        self.assertEqual(dealt(book, EVEN_YEAR), [("a", 5), ("b", 0)])

    def test_the_same_date_goes_by_name(self):
        book = book_of(FORK, ("a", 1, 5, 1), ("b", 2, 5, 1))
        self.assert_harms(book, [EVEN_YEAR], "a", 2, ["b"])
        self.assert_moves(book, [EVEN_YEAR], "b", 1)

    def test_its_own_point(self):
        self.assert_moves(fork_book(), [EVEN_YEAR, ONE_SIDED_YEAR], "c", 1)

    def test_an_amount_of_0(self):
        book = book_of(FORK, ("a", 1, 0, 1), ("b", 2, 5, 2))
        self.assert_moves(book, [EVEN_YEAR], "a", 2)

    def test_no_years(self):
        self.assert_moves(fork_book(), [], "c", 2)
        self.assert_moves(fork_book(), [], "b", 0)

    def test_every_small_river_by_the_words(self):
        for below in all_small_rivers(4):
            points = range(len(below))
            years = [[(5 * point + 3) % 7 for point in points], [(3 * point + 1) % 5 for point in points]]
            places = [3 * place % len(below) for place in range(5)]
            rights = [(name, places[place], 1 + 2 * place % 5, place % 3) for place, name in enumerate("cabed")]
            for name in "abcde":
                for point in points:
                    wanted = harmed_by_words(below, rights, years, name, point)
                    book = book_of(below, *rights)
                    self.assert_harms(book, years, name, point, wanted)
                    if not wanted:
                        self.assert_moves(book, years, name, point)


class MovedTest(ChangesCase):
    def test_a_moved_right_takes_at_its_point_from_now_on(self):
        book = fork_book()
        self.assertEqual(dealt(book, EVEN_YEAR), [("c", 5), ("b", 5), ("a", 0)])
        self.assertEqual(move(book, [EVEN_YEAR], "c", 0), 1)
        self.assertEqual(dealt(book, [5, 0, 10]), [("c", 5), ("b", 5), ("a", 5)])
        self.assertEqual(move(book, [], "c", 2), 0)
        self.assertEqual(dealt(book, [5, 0, 10]), [("c", 5), ("b", 5), ("a", 0)])
        self.assertEqual(move(book, [[9, 9, 99]], "c", 1), 2)
        self.assertEqual(told(book), told(fork_book()))

    def test_a_moved_right_is_parted_and_united_at_its_point(self):
        book = fork_book()
        move(book, [], "c", 2)
        self.assertEqual(book.part("c", "d", 2), 4)
        self.assertEqual(book.right("d"), (2, 2, 1))
        self.assertEqual(book.unite("c", "d"), 3)
        self.assertEqual(book.right("c"), (2, 5, 1))

    def test_asking_moves_nothing(self):
        book = fork_book()
        for point in range(3):
            harmed(book, [EVEN_YEAR], "c", point)
        self.assertEqual(told(book), told(fork_book()))


class RefusedTest(ChangesCase):
    def assert_both_refuse(self, refusal, years, name, point):
        book = fork_book()
        handed = [list(year) for year in years]
        for ask in (harmed, move):
            self.assert_refused_unchanged(refusal, book, ask, book, handed, name, point)
            self.assertEqual(handed, years)

    def test_no_right(self):
        for years in ([], [EVEN_YEAR]):
            self.assert_both_refuse(NoRight, years, "gone", 1)

    def test_no_point(self):
        for point in no_points(3):
            for years in ([], [EVEN_YEAR]):
                self.assert_both_refuse(NoPoint, years, "c", point)

    def test_bad_year(self):
        for year in bad_years(3):
            for years in ([year], [EVEN_YEAR, [9, 9, 9], year], [year, [9, 9, 9]]):
                self.assert_both_refuse(BadYear, years, "c", 0)
                self.assert_both_refuse(BadYear, years, "c", 1)

    def test_no_right_goes_ahead_of_no_point_and_bad_year(self):
        for point in no_points(3):
            self.assert_both_refuse(NoRight, [EVEN_YEAR], "gone", point)
            self.assert_both_refuse(NoRight, [[1]], "gone", point)
        for year in bad_years(3):
            self.assert_both_refuse(NoRight, [year], "gone", 1)

    def test_no_point_goes_ahead_of_bad_year(self):
        for point in no_points(3):
            for year in bad_years(3):
                self.assert_both_refuse(NoPoint, [year], "c", point)

    def test_bad_year_goes_ahead_of_harm(self):
        for year in bad_years(3):
            self.assert_both_refuse(BadYear, [EVEN_YEAR, year], "c", 2)
            self.assert_both_refuse(BadYear, [year, EVEN_YEAR], "c", 2)


class ListsTest(ChangesCase):
    def test_what_is_handed_in_stays_as_it_was(self):
        years = [list(EVEN_YEAR), list(ONE_SIDED_YEAR)]
        harmed(fork_book(), years, "c", 2)
        move(fork_book(), years, "a", 0)
        self.assert_refused(Harm, move, fork_book(), years, "c", 2)
        self.assertEqual(years, [EVEN_YEAR, ONE_SIDED_YEAR])

    def test_changing_what_was_told_changes_nothing(self):
        book = fork_book()
        first = harmed(book, [EVEN_YEAR], "c", 2)
        first.clear()
        self.assertEqual(harmed(book, [EVEN_YEAR], "c", 2), ["b"])
        self.assertEqual(told(book), told(fork_book()))

    def test_changing_the_years_later_changes_nothing(self):
        book = fork_book()
        years = [list(EVEN_YEAR)]
        first = harmed(book, years, "c", 2)
        move(book, years, "c", 0)
        years[0][1] = 7
        years.append([1])
        self.assertEqual(first, ["b"])
        self.assertEqual(book.right("c"), (0, 5, 1))
