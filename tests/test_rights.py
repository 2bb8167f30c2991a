import itertools

from riverdue.errors import NoPoint, NoRight, Taken, TooMuch, Unlike
from riverdue.rights import Book
from riverdue.river import River
from tests.helper import BRANCHED, MANY_FIGURES, BookCase, no_points, told_rights


def sample_book():
    book = Book(River(BRANCHED))
    book.grant("mill", 3, 50, 1900)
    book.grant("farm", 3, 70, 1900)
    book.grant("town", 0, 1000000, 1850)
    book.grant("ford", 3, 50, 1901)
    book.grant("weir", 4, 50, 1900)
    return book


class BookTest(BookCase):
    def test_river(self):
        river = River(BRANCHED)
        self.assertIs(Book(river).river(), river)

    def test_a_new_book_is_empty(self):
        self.assertEqual(Book(River([None])).names(), [])

    def test_a_right_is_a_tuple_of_point_amount_date(self):
        book = sample_book()
        self.assertEqual(book.right("mill"), (3, 50, 1900))
        self.assertEqual(book.right("town"), (0, 1000000, 1850))
        self.assertIsInstance(book.right("mill"), tuple)

    def test_least_and_greatest_numbers(self):
        book = Book(River(BRANCHED))
        book.grant("a", 0, 0, 0)
        book.grant("zzzzzzzz", 6, 1000000, 9999)
        self.assertEqual(told_rights(book), [("a", (0, 0, 0)), ("zzzzzzzz", (6, 1000000, 9999))])

    def test_forty_rights(self):
        book = Book(River([None]))
        names = [first + second for first in "abcd" for second in "abcdefghij"]
        for count, name in enumerate(reversed(names), start=1):
            self.assertEqual(book.grant(name, 0, 5, 7), count)
        self.assertEqual(book.names(), names)

    def test_order_by_date_then_by_name(self):
        self.assertEqual(sample_book().names(), ["town", "farm", "mill", "weir", "ford"])

    def test_order_by_number_of_the_date(self):
        book = Book(River([None]))
        for name, date in (("a", 1000), ("b", 999), ("c", 0), ("d", 9999), ("e", 9)):
            book.grant(name, 0, 1, date)
        self.assertEqual(book.names(), ["c", "e", "b", "a", "d"])

    def test_order_where_one_name_begins_with_another(self):
        wanted = ["a", "aa", "ab", "abc", "b", "ba"]
        for granted in (wanted, wanted[::-1], ["b", "abc", "a", "ba", "ab", "aa"]):
            book = Book(River([None]))
            for name in granted:
                book.grant(name, 0, 1, 5)
            self.assertEqual(book.names(), wanted)

    def test_order_whatever_the_order_of_granting(self):
        rights = [("b", 3, 9, 5), ("a", 6, 1, 5), ("ab", 0, 4, 5), ("z", 2, 0, 4), ("aa", 1, 7, 6)]
        for granted in itertools.permutations(rights):
            book = Book(River(BRANCHED))
            for right in granted:
                book.grant(*right)
            self.assertEqual(book.names(), ["z", "a", "ab", "b", "aa"])

    def test_changing_the_names_told_changes_nothing(self):
        book = sample_book()
        names = book.names()
        names.append("more")
        names[0] = "other"
        self.assertEqual(book.names(), ["town", "farm", "mill", "weir", "ford"])
        names.clear()
        self.assertEqual(len(told_rights(book)), 5)

    def test_deeds_change_no_list_told_before(self):
        book = sample_book()
        names = book.names()
        book.drop("mill")
        self.assertEqual(names, ["town", "farm", "mill", "weir", "ford"])

    def test_two_books_of_one_river(self):
        river = River(BRANCHED)
        first = Book(river)
        second = Book(river)
        self.assertEqual(first.grant("mill", 3, 50, 1900), 1)
        self.assertEqual(second.names(), [])
        self.assert_refused(NoRight, second.right, "mill")
        self.assertEqual(second.grant("mill", 4, 60, 1800), 1)
        self.assertEqual(second.part("mill", "farm", 20), 2)
        self.assertEqual(told_rights(first), [("mill", (3, 50, 1900))])
        self.assertEqual(first.drop("mill"), 0)
        self.assertEqual(told_rights(second), [("farm", (4, 20, 1800)), ("mill", (4, 40, 1800))])

    def test_deeds_leave_the_river_as_it_was(self):
        book = sample_book()
        book.part("mill", "half", 25)
        book.unite("mill", "half")
        book.drop("mill")
        river = book.river()
        self.assertEqual([river.below(point) for point in range(river.points())], BRANCHED)


class GrantAndDropTest(BookCase):
    def test_how_many_rights_there_are(self):
        book = Book(River(BRANCHED))
        self.assertEqual(book.grant("mill", 3, 50, 1900), 1)
        self.assertEqual(book.grant("farm", 3, 70, 1900), 2)
        self.assertEqual(book.grant("town", 0, 0, 1850), 3)
        self.assertEqual(book.drop("farm"), 2)
        self.assertEqual(told_rights(book), [("town", (0, 0, 1850)), ("mill", (3, 50, 1900))])
        self.assertEqual(book.drop("town"), 1)
        self.assertEqual(book.drop("mill"), 0)
        self.assertEqual(told_rights(book), [])

    def test_granting_at_each_point(self):
        book = Book(River(BRANCHED))
        for point, name in enumerate("abcdefg"):
            self.assertEqual(book.grant(name, point, 1, 2), point + 1)
            self.assertEqual(book.right(name), (point, 1, 2))

    def test_taken(self):
        book = sample_book()
        self.assert_refused_unchanged(Taken, book, book.grant, "mill", 3, 50, 1900)
        self.assert_refused_unchanged(Taken, book, book.grant, "mill", 4, 60, 1800)

    def test_taken_goes_ahead_of_no_point(self):
        book = sample_book()
        for point in no_points(7):
            self.assert_refused_unchanged(Taken, book, book.grant, "mill", point, 60, 1800)

    def test_no_point(self):
        book = sample_book()
        for point in no_points(7):
            self.assert_refused_unchanged(NoPoint, book, book.grant, "new", point, 60, 1800)
            self.assert_refused(NoRight, book.right, "new")
        self.assertEqual(book.grant("new", 6, 60, 1800), 6)

    def test_no_right(self):
        book = sample_book()
        for name in ("mil", "mills", "a"):
            self.assert_refused_unchanged(NoRight, book, book.drop, name)
            self.assert_refused_unchanged(NoRight, book, book.right, name)

    def test_a_dropped_right_is_gone(self):
        book = sample_book()
        self.assertEqual(book.drop("mill"), 4)
        self.assertEqual(book.names(), ["town", "farm", "weir", "ford"])
        self.assert_refused_unchanged(NoRight, book, book.right, "mill")
        self.assert_refused_unchanged(NoRight, book, book.drop, "mill")

    def test_a_dropped_name_is_granted_anew(self):
        book = sample_book()
        book.drop("mill")
        self.assertEqual(book.grant("mill", 5, 8, 1700), 5)
        self.assertEqual(book.right("mill"), (5, 8, 1700))
        self.assertEqual(book.names(), ["mill", "town", "farm", "weir", "ford"])


class PartTest(BookCase):
    def test_a_part(self):
        book = sample_book()
        self.assertEqual(book.part("farm", "barn", 30), 6)
        self.assertEqual(book.right("farm"), (3, 40, 1900))
        self.assertEqual(book.right("barn"), (3, 30, 1900))
        self.assertEqual(book.names(), ["town", "barn", "farm", "mill", "weir", "ford"])

    def test_a_part_of_nothing(self):
        book = sample_book()
        self.assertEqual(book.part("farm", "barn", 0), 6)
        self.assertEqual(book.right("farm"), (3, 70, 1900))
        self.assertEqual(book.right("barn"), (3, 0, 1900))

    def test_a_part_of_the_whole(self):
        book = sample_book()
        self.assertEqual(book.part("town", "city", 1000000), 6)
        self.assertEqual(book.right("town"), (0, 0, 1850))
        self.assertEqual(book.right("city"), (0, 1000000, 1850))
        self.assertEqual(book.names()[:2], ["city", "town"])

    def test_nothing_of_nothing(self):
        book = Book(River([None]))
        book.grant("a", 0, 0, 1)
        self.assertEqual(book.part("a", "b", 0), 2)
        self.assertEqual(told_rights(book), [("a", (0, 0, 1)), ("b", (0, 0, 1))])
        self.assert_refused_unchanged(TooMuch, book, book.part, "a", "c", 1)

    def test_a_part_is_a_right_of_its_own(self):
        book = sample_book()
        book.part("farm", "barn", 30)
        self.assertEqual(book.part("barn", "shed", 10), 7)
        self.assertEqual(book.drop("farm"), 6)
        self.assertEqual(book.right("barn"), (3, 20, 1900))
        self.assertEqual(book.right("shed"), (3, 10, 1900))

    def test_too_much(self):
        book = sample_book()
        self.assert_refused_unchanged(TooMuch, book, book.part, "farm", "barn", 71)
        self.assert_refused_unchanged(TooMuch, book, book.part, "farm", "barn", 1000000)
        self.assert_refused(NoRight, book.right, "barn")

    def test_no_right(self):
        book = sample_book()
        self.assert_refused_unchanged(NoRight, book, book.part, "none", "barn", 0)
        self.assert_refused_unchanged(NoRight, book, book.part, "none", "none", 0)

    def test_taken(self):
        book = sample_book()
        self.assert_refused_unchanged(Taken, book, book.part, "farm", "mill", 10)
        self.assert_refused_unchanged(Taken, book, book.part, "farm", "farm", 0)

    def test_no_right_goes_ahead_of_taken_and_too_much(self):
        book = sample_book()
        self.assert_refused_unchanged(NoRight, book, book.part, "none", "mill", 10)
        self.assert_refused_unchanged(NoRight, book, book.part, "none", "barn", 1000000)
        self.assert_refused_unchanged(NoRight, book, book.part, "none", "mill", 1000000)

    def test_taken_goes_ahead_of_too_much(self):
        book = sample_book()
        self.assert_refused_unchanged(Taken, book, book.part, "farm", "mill", 71)
        self.assert_refused_unchanged(Taken, book, book.part, "farm", "farm", 71)


class UniteTest(BookCase):
    def test_two_rights(self):
        book = sample_book()
        self.assertEqual(book.unite("mill", "farm"), 4)
        self.assertEqual(book.right("mill"), (3, 120, 1900))
        self.assert_refused(NoRight, book.right, "farm")
        self.assertEqual(book.names(), ["town", "mill", "weir", "ford"])

    def test_the_first_one_stays(self):
        book = sample_book()
        self.assertEqual(book.unite("farm", "mill"), 4)
        self.assertEqual(book.right("farm"), (3, 120, 1900))
        self.assert_refused(NoRight, book.right, "mill")

    def test_the_name_that_went_is_granted_anew(self):
        book = sample_book()
        book.unite("mill", "farm")
        self.assertEqual(book.grant("farm", 2, 1, 1), 5)
        self.assertEqual(book.right("farm"), (2, 1, 1))

    def test_parting_and_uniting_again(self):
        book = sample_book()
        before = told_rights(book)
        book.part("farm", "barn", 30)
        self.assertEqual(book.unite("farm", "barn"), 5)
        self.assertEqual(told_rights(book), before)

    def test_amounts_up_to_the_bound(self):
        for first, second in ((400000, 600000), (1000000, 0), (0, 1000000), (0, 0), (999999, 1)):
            book = Book(River([None]))
            book.grant("a", 0, first, 5)
            book.grant("b", 0, second, 5)
            self.assertEqual(book.unite("b", "a"), 1)
            self.assertEqual(told_rights(book), [("b", (0, first + second, 5))])

    def test_amounts_beyond_the_bound(self):
        for first, second in ((400000, 600001), (1000000, 1), (1, 1000000), (1000000, 1000000)):
            book = Book(River([None]))
            book.grant("a", 0, first, 5)
            book.grant("b", 0, second, 5)
            self.assert_refused_unchanged(Unlike, book, book.unite, "a", "b")

    def test_a_right_with_itself(self):
        book = sample_book()
        book.grant("none", 3, 0, 1900)
        self.assert_refused_unchanged(Unlike, book, book.unite, "mill", "mill")
        self.assert_refused_unchanged(Unlike, book, book.unite, "none", "none")

    def test_another_point(self):
        book = sample_book()
        self.assert_refused_unchanged(Unlike, book, book.unite, "mill", "weir")
        self.assert_refused_unchanged(Unlike, book, book.unite, "weir", "mill")

    def test_another_date(self):
        book = sample_book()
        self.assert_refused_unchanged(Unlike, book, book.unite, "mill", "ford")
        self.assert_refused_unchanged(Unlike, book, book.unite, "ford", "mill")

    def test_no_right(self):
        book = sample_book()
        self.assert_refused_unchanged(NoRight, book, book.unite, "none", "mill")
        self.assert_refused_unchanged(NoRight, book, book.unite, "mill", "none")
        self.assert_refused_unchanged(NoRight, book, book.unite, "none", "gone")

    def test_no_right_goes_ahead_of_unlike(self):
        book = sample_book()
        self.assert_refused_unchanged(NoRight, book, book.unite, "none", "none")
        self.assert_refused_unchanged(NoRight, book, book.unite, "town", "none")
        self.assert_refused_unchanged(NoRight, book, book.unite, "none", "town")


class BeyondTheBoundsTest(BookCase):
    """What lies somewhat beyond a bound is refused only where a point says so."""

    def test_names_amounts_and_dates(self):
        book = Book(River([None]))
        self.assertEqual(book.grant("abcdefghi", 0, 1000001, 10000), 1)
        self.assertEqual(book.grant("", 0, 1, 10000), 2)
        self.assertEqual(told_rights(book), [("", (0, 1, 10000)), ("abcdefghi", (0, 1000001, 10000))])
        self.assertEqual(book.part("abcdefghi", "b", 1000001), 3)
        self.assertEqual(book.right("b"), (0, 1000001, 10000))

    def test_more_than_forty_rights(self):
        book = Book(River([None]))
        for count in range(1, 46):
            self.assertEqual(book.grant("a" * count, 0, 1, 1), count)

    def test_a_part_of_many_figures_is_too_much(self):
        book = sample_book()
        self.assert_refused_unchanged(TooMuch, book, book.part, "farm", "barn", MANY_FIGURES)
