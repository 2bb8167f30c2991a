from riverdue.changes import move
from riverdue.dealing import dealt, left
from riverdue.errors import BadYear, NoPoint, NoPond, NoRight, NotBelow, Taken, TooMuch
from riverdue.office import Office
from tests.helper import BRANCHED, CHAIN, RefusalCase, bad_years, book_of, no_points, told, told_office

SHORT_CHAIN = [None, 0, 1]


def town_and_lake():
    """A right `town` at the mouth that wants 5, and an older pond `lake` at point 2 that holds 10."""
    book = book_of(SHORT_CHAIN, ("town", 0, 5, 2))
    office = Office(book)
    office.dig("lake", 2, 10, 1)
    return book, office


def town_and_full_lake():
    """The same behind two days: 10 are stored, `town` got nothing on the last day and 5 over both."""
    book, office = town_and_lake()
    office.day([5, 0, 8])
    office.day([0, 0, 2])
    return book, office


class OfficeCase(RefusalCase):
    def assert_refused_unchanged(self, refusal, office, book, ponds, deed, *args):
        before = told_office(office, book, ponds)
        self.assert_refused(refusal, deed, *args)
        self.assertEqual(told_office(office, book, ponds), before)


class DigTest(OfficeCase):
    def test_how_many_ponds_there_are(self):
        book = book_of(BRANCHED)
        office = Office(book)
        for point, name in enumerate("abcdefg"):
            self.assertEqual(office.dig(name, point, 5, 7), point + 1)
            self.assertEqual(office.stored(name), 0)

    def test_nothing_is_stored_at_first(self):
        office = Office(book_of([None]))
        office.dig("lake", 0, 1000000, 0)
        self.assertEqual(office.stored("lake"), 0)
        self.assertEqual(office.out(), 0)

    def test_a_pond_may_bear_the_name_of_a_right(self):
        book = book_of([None], ("mill", 0, 5, 5))
        office = Office(book)
        self.assertEqual(office.dig("mill", 0, 7, 3), 1)
        self.assertEqual(book.right("mill"), (0, 5, 5))
        self.assertEqual(book.names(), ["mill"])
        self.assertEqual(book.grant("lake", 0, 5, 5), 2)
        self.assertEqual(office.dig("lake", 0, 7, 3), 2)

    def test_taken(self):
        book, office = town_and_full_lake()
        self.assert_refused_unchanged(Taken, office, book, ["lake"], office.dig, "lake", 2, 10, 1)
        self.assert_refused_unchanged(Taken, office, book, ["lake"], office.dig, "lake", 0, 99, 0)
        self.assertEqual(office.day([0, 0, 7]), ([("town", 5)], [("lake", 0)]))

    def test_no_point(self):
        book, office = town_and_full_lake()
        for point in no_points(3):
            self.assert_refused_unchanged(NoPoint, office, book, ["lake"], office.dig, "pool", point, 10, 1)
            self.assert_refused(NoPond, office.stored, "pool")
        self.assertEqual(office.dig("pool", 2, 10, 1), 2)

    def test_taken_goes_ahead_of_no_point(self):
        book, office = town_and_full_lake()
        for point in no_points(3):
            self.assert_refused_unchanged(Taken, office, book, ["lake"], office.dig, "lake", point, 10, 1)


class DayTest(OfficeCase):
    def test_nothing_to_serve(self):
        office = Office(book_of(SHORT_CHAIN))
        self.assertEqual(office.day([1, 2, 4]), ([], []))
        self.assertEqual(office.out(), 7)
        self.assertEqual(office.day([0, 0, 0]), ([], []))
        self.assertEqual(office.day([0, 0, 3]), ([], []))
        self.assertEqual(office.out(), 10)

    def test_one_right(self):
        book = book_of([None], ("a", 0, 10, 5))
        office = Office(book)
        self.assertEqual((office.got("a"), office.account("a"), office.out()), (0, 0, 0))
        self.assertEqual(office.day([7]), ([("a", 7)], []))
        self.assertEqual((office.got("a"), office.account("a"), office.out()), (7, 7, 0))
        self.assertEqual(office.day([12]), ([("a", 10)], []))
        self.assertEqual((office.got("a"), office.account("a"), office.out()), (10, 17, 2))
        self.assertEqual(office.day([0]), ([("a", 0)], []))
        self.assertEqual((office.got("a"), office.account("a"), office.out()), (0, 17, 2))

    def test_one_pond(self):
        office = Office(book_of([None]))
        office.dig("lake", 0, 10, 5)
        for inflow, take, stored, out in ((4, 4, 4, 0), (0, 0, 4, 0), (5, 5, 9, 0), (5, 1, 10, 4), (5, 0, 10, 9)):
            self.assertEqual(office.day([inflow]), ([], [("lake", take)]))
            self.assertEqual((office.stored("lake"), office.out()), (stored, out))

    def test_a_pond_of_size_0(self):
        office = Office(book_of([None]))
        office.dig("lake", 0, 0, 5)
        self.assertEqual(office.day([4]), ([], [("lake", 0)]))
        self.assertEqual((office.stored("lake"), office.out()), (0, 4))

    def test_kinds(self):
        book, office = town_and_lake()
        answer = office.day([0, 0, 8])
        self.assertIsInstance(answer, tuple)
        for pairs in answer:
            self.assertIsInstance(pairs, list)
            self.assertIsInstance(pairs[0], tuple)

    def test_an_older_pond_above_a_right(self):
        book, office = town_and_lake()
        self.assertEqual(office.day([0, 0, 8]), ([("town", 0)], [("lake", 8)]))
        self.assertEqual((office.stored("lake"), office.got("town"), office.out()), (8, 0, 0))
        self.assertEqual(office.day([0, 0, 8]), ([("town", 5)], [("lake", 2)]))
        self.assertEqual((office.stored("lake"), office.got("town"), office.out()), (10, 5, 1))

    def test_a_younger_pond_above_a_right(self):
        book = book_of(SHORT_CHAIN, ("town", 0, 5, 2))
        office = Office(book)
        office.dig("lake", 2, 10, 3)
        self.assertEqual(office.day([0, 1, 8]), ([("town", 5)], [("lake", 4)]))
        self.assertEqual((office.stored("lake"), office.out()), (4, 0))

    def test_what_is_left_elsewhere_does_not_run_out_twice(self):
        book = book_of(BRANCHED, ("a", 4, 10, 1))
        office = Office(book)
        office.dig("lake", 5, 20, 2)
        self.assertEqual(office.day([1, 2, 4, 8, 16, 32, 64]), ([("a", 10)], [("lake", 20)]))
        self.assertEqual(office.out(), 127 - 30)

    def test_a_right_goes_ahead_of_a_pond_of_the_same_date_and_name(self):
        book = book_of([None], ("a", 0, 5, 3))
        office = Office(book)
        office.dig("a", 0, 5, 3)
        self.assertEqual(office.day([7]), ([("a", 5)], [("a", 2)]))
        self.assertEqual(office.day([7]), ([("a", 5)], [("a", 2)]))
        self.assertEqual(office.day([7]), ([("a", 5)], [("a", 1)]))
        self.assertEqual((office.stored("a"), office.got("a"), office.account("a"), office.out()), (5, 5, 15, 1))

    def test_a_right_of_amount_0_goes_ahead_of_a_pond_too(self):
        book = book_of([None], ("a", 0, 0, 3))
        office = Office(book)
        office.dig("a", 0, 5, 3)
        self.assertEqual(office.day([7]), ([("a", 0)], [("a", 5)]))

    def test_ponds_and_rights_of_the_same_date_go_by_name(self):
        book = book_of([None], ("b", 0, 4, 3), ("d", 0, 4, 3))
        office = Office(book)
        for name in "eca":
            office.dig(name, 0, 4, 3)
        self.assertEqual(office.day([9]), ([("b", 4), ("d", 0)], [("a", 4), ("c", 1), ("e", 0)]))
        self.assertEqual(office.day([9]), ([("b", 4), ("d", 2)], [("a", 0), ("c", 3), ("e", 0)]))

    def test_the_date_goes_ahead_of_the_name_and_of_rights(self):
        book = book_of([None], ("a", 0, 4, 1000), ("c", 0, 4, 2))
        office = Office(book)
        office.dig("a", 0, 4, 1001)
        office.dig("z", 0, 4, 999)
        self.assertEqual(office.day([13]), ([("c", 4), ("a", 4)], [("z", 4), ("a", 1)]))
        self.assertEqual(office.day([3]), ([("c", 3), ("a", 0)], [("z", 0), ("a", 0)]))

    def test_ponds_and_rights_on_branches(self):
        book = book_of(BRANCHED, ("a", 6, 50, 1), ("c", 4, 20, 2), ("f", 0, 9, 4))
        office = Office(book)
        # b takes its 30 of the 40 left at point 1, c the 10 behind it; d finds 0 at point 1; e takes all at point 5.
        for name, point, size, date in (("e", 5, 40, 3), ("d", 3, 5, 3), ("b", 1, 30, 2)):
            office.dig(name, point, size, date)
        answer = office.day([1, 2, 4, 8, 16, 32, 64])
        self.assertEqual(answer, ([("a", 50), ("c", 10), ("f", 5)], [("b", 30), ("d", 0), ("e", 32)]))
        self.assertEqual(office.out(), 0)
        # b is full: c takes the 16 of its point, d all it wants, e the 8 it has room for, and 39 of 127 run out.
        answer = office.day([1, 2, 4, 8, 16, 32, 64])
        self.assertEqual(answer, ([("a", 50), ("c", 16), ("f", 9)], [("b", 0), ("d", 5), ("e", 8)]))
        self.assertEqual(office.out(), 39)

    def test_without_ponds_a_day_is_dealt_like_a_year(self):
        book = book_of(CHAIN, ("a", 3, 4, 3), ("b", 0, 9, 1), ("c", 4, 7, 2), ("d", 1, 0, 0))
        office = Office(book)
        for year in ([1, 2, 3, 4, 5], [0, 0, 0, 0, 20], [9, 0, 0, 0, 0]):
            out = office.out()
            self.assertEqual(office.day(year), (dealt(book, year), []))
            self.assertEqual(office.out() - out, left(book, year)[0])

    def test_greatest_numbers(self):
        office = Office(book_of(CHAIN, ("a", 0, 1000000, 9999)))
        office.dig("a", 4, 1000000, 9999)
        self.assertEqual(office.day([1000000] * 5), ([("a", 1000000)], [("a", 1000000)]))
        self.assertEqual((office.out(), office.stored("a")), (3000000, 1000000))

    def test_bad_year_and_nothing_is_done(self):
        book, office = town_and_full_lake()
        office.send("lake", "town", 3)
        for year in bad_years(3):
            handed = list(year)
            self.assert_refused_unchanged(BadYear, office, book, ["lake"], office.day, handed)
            self.assertEqual(handed, year)
        empty = Office(book_of([None]))
        for year in bad_years(1):
            self.assert_refused(BadYear, empty.day, year)
        self.assertEqual(empty.out(), 0)


class SendTest(OfficeCase):
    def test_sending(self):
        book, office = town_and_full_lake()
        self.assertEqual((office.stored("lake"), office.got("town"), office.account("town")), (10, 0, 5))
        self.assertEqual(office.send("lake", "town", 3), 7)
        self.assertEqual((office.stored("lake"), office.got("town"), office.account("town")), (7, 3, 8))
        self.assertEqual(office.send("lake", "town", 2), 5)
        self.assertEqual((office.stored("lake"), office.got("town"), office.account("town")), (5, 5, 10))
        self.assertEqual(office.out(), 0)

    def test_sending_0(self):
        book, office = town_and_full_lake()
        self.assertEqual(office.send("lake", "town", 0), 10)
        self.assertEqual((office.got("town"), office.account("town")), (0, 5))
        office.send("lake", "town", 5)
        self.assertEqual(office.send("lake", "town", 0), 5)

    def test_what_was_sent_leaves_room_in_the_pond(self):
        book, office = town_and_full_lake()
        office.send("lake", "town", 4)
        self.assertEqual(office.day([0, 0, 9]), ([("town", 5)], [("lake", 4)]))
        self.assertEqual((office.stored("lake"), office.got("town"), office.account("town")), (10, 5, 14))

    def test_a_new_day_makes_a_new_lack(self):
        book, office = town_and_full_lake()
        office.send("lake", "town", 5)
        self.assertEqual(office.day([2, 0, 0]), ([("town", 2)], [("lake", 0)]))
        self.assertEqual((office.stored("lake"), office.got("town"), office.account("town")), (5, 2, 12))
        self.assert_refused_unchanged(TooMuch, office, book, ["lake"], office.send, "lake", "town", 4)
        self.assertEqual(office.send("lake", "town", 3), 2)

    def test_ahead_of_the_first_day(self):
        book, office = town_and_lake()
        self.assertEqual(office.send("lake", "town", 0), 0)
        self.assertEqual((office.got("town"), office.account("town")), (0, 0))
        self.assert_refused_unchanged(TooMuch, office, book, ["lake"], office.send, "lake", "town", 1)

    def test_more_than_is_stored(self):
        book = book_of(SHORT_CHAIN, ("town", 0, 50, 2))
        office = Office(book)
        office.dig("lake", 2, 10, 1)
        office.day([0, 0, 8])
        self.assert_refused_unchanged(TooMuch, office, book, ["lake"], office.send, "lake", "town", 9)
        self.assert_refused_unchanged(TooMuch, office, book, ["lake"], office.send, "lake", "town", 1000000)
        self.assertEqual(office.send("lake", "town", 8), 0)
        self.assert_refused_unchanged(TooMuch, office, book, ["lake"], office.send, "lake", "town", 1)

    def test_more_than_the_right_lacks(self):
        book, office = town_and_full_lake()
        self.assert_refused_unchanged(TooMuch, office, book, ["lake"], office.send, "lake", "town", 6)
        self.assertEqual(office.send("lake", "town", 4), 6)
        self.assert_refused_unchanged(TooMuch, office, book, ["lake"], office.send, "lake", "town", 2)
        self.assertEqual(office.send("lake", "town", 1), 5)
        self.assert_refused_unchanged(TooMuch, office, book, ["lake"], office.send, "lake", "town", 1)

    def test_to_rights_below_and_at_the_point_of_the_pond_alone(self):
        rights = [(name, point, 5, 9) for point, name in enumerate("abcdefg")]
        book = book_of(BRANCHED, *rights)
        office = Office(book)
        office.dig("lake", 3, 100, 1)
        office.day([0, 0, 0, 100, 0, 0, 0])
        for name in "dba":
            self.assertEqual(office.send("lake", name, 1), office.stored("lake"))
        self.assertEqual(office.stored("lake"), 97)
        for name in "cefg":
            for amount in (0, 1):
                self.assert_refused_unchanged(NotBelow, office, book, ["lake"], office.send, "lake", name, amount)

    def test_no_pond(self):
        book, office = town_and_full_lake()
        for name in ("pool", "town", "lakes"):
            self.assert_refused_unchanged(NoPond, office, book, ["lake"], office.send, name, "town", 0)
            self.assert_refused_unchanged(NoPond, office, book, ["lake"], office.stored, name)

    def test_no_right(self):
        book, office = town_and_full_lake()
        for name in ("city", "lake"):
            self.assert_refused_unchanged(NoRight, office, book, ["lake"], office.send, "lake", name, 0)
            self.assert_refused_unchanged(NoRight, office, book, ["lake"], office.got, name)
            self.assert_refused_unchanged(NoRight, office, book, ["lake"], office.account, name)

    def test_the_order_of_refusals(self):
        book, office = town_and_full_lake()
        book.grant("high", 2, 5, 5)
        office.dig("low", 1, 5, 5)
        ponds = ["lake", "low"]
        self.assert_refused_unchanged(NoPond, office, book, ponds, office.send, "pool", "city", 0)
        self.assert_refused_unchanged(NoPond, office, book, ponds, office.send, "pool", "town", 1000000)
        self.assert_refused_unchanged(NoPond, office, book, ponds, office.send, "pool", "city", 1000000)
        self.assert_refused_unchanged(NoRight, office, book, ponds, office.send, "lake", "city", 1000000)
        self.assert_refused_unchanged(NotBelow, office, book, ponds, office.send, "low", "high", 0)
        self.assert_refused_unchanged(NotBelow, office, book, ponds, office.send, "low", "high", 1000000)

    def test_a_pond_and_a_right_of_the_same_name(self):
        book = book_of([None], ("a", 0, 9, 3))
        office = Office(book)
        office.dig("a", 0, 5, 1)
        self.assertEqual(office.day([6]), ([("a", 1)], [("a", 5)]))
        self.assertEqual(office.send("a", "a", 2), 3)
        self.assertEqual((office.stored("a"), office.got("a"), office.account("a")), (3, 3, 3))


class KeptByNameTest(OfficeCase):
    def test_a_right_granted_behind_the_day_got_nothing(self):
        book, office = town_and_full_lake()
        book.grant("city", 1, 7, 0)
        self.assertEqual((office.got("city"), office.account("city")), (0, 0))
        self.assert_refused_unchanged(TooMuch, office, book, ["lake"], office.send, "lake", "city", 8)
        self.assertEqual(office.send("lake", "city", 7), 3)
        self.assertEqual((office.got("city"), office.account("city")), (7, 7))

    def test_a_dropped_right_is_not_told(self):
        book, office = town_and_full_lake()
        book.drop("town")
        for ask in (office.got, office.account):
            self.assert_refused_unchanged(NoRight, office, book, ["lake"], ask, "town")
        self.assert_refused_unchanged(NoRight, office, book, ["lake"], office.send, "lake", "town", 0)
        self.assertEqual(office.day([0, 0, 3]), ([], [("lake", 0)]))

    def test_a_right_granted_anew_finds_what_was_kept(self):
        book, office = town_and_full_lake()
        office.send("lake", "town", 3)
        book.drop("town")
        book.grant("town", 1, 8, 50)
        self.assertEqual((office.got("town"), office.account("town")), (3, 8))
        self.assert_refused_unchanged(TooMuch, office, book, ["lake"], office.send, "lake", "town", 6)
        self.assertEqual(office.send("lake", "town", 5), 2)
        self.assertEqual((office.got("town"), office.account("town")), (8, 13))

    def test_a_day_without_it_leaves_nothing_of_the_last_day(self):
        book, office = town_and_full_lake()
        office.send("lake", "town", 3)
        book.drop("town")
        office.day([4, 0, 0])
        book.grant("town", 0, 5, 2)
        self.assertEqual((office.got("town"), office.account("town"), office.out()), (0, 8, 4))
        self.assertEqual(office.send("lake", "town", 5), 2)

    def test_a_part_finds_what_was_kept_of_its_name(self):
        book = book_of([None], ("a", 0, 6, 1), ("b", 0, 6, 2))
        office = Office(book)
        office.day([10])
        book.drop("b")
        book.part("a", "b", 2)
        self.assertEqual((office.got("a"), office.got("b"), office.account("b")), (6, 4, 4))

    def test_a_right_that_got_more_than_its_amount_lacks_nothing(self):
        book = book_of([None], ("a", 0, 10, 5))
        office = Office(book)
        office.dig("lake", 0, 20, 6)
        office.day([18])
        book.part("a", "b", 6)
        self.assertEqual((office.got("a"), office.got("b"), office.stored("lake")), (10, 0, 8))
        self.assert_refused_unchanged(TooMuch, office, book, ["lake"], office.send, "lake", "a", 1)
        self.assertEqual(office.send("lake", "a", 0), 8)
        self.assertEqual(office.send("lake", "b", 6), 2)

    def test_uniting_brings_amounts_together_but_not_what_was_got(self):
        book = book_of([None], ("a", 0, 4, 5), ("b", 0, 4, 5))
        office = Office(book)
        office.dig("lake", 0, 9, 1)
        office.day([12])
        self.assertEqual((office.got("a"), office.got("b"), office.stored("lake")), (3, 0, 9))
        office.send("lake", "b", 1)
        book.unite("a", "b")
        self.assertEqual((office.got("a"), office.account("a")), (3, 3))
        self.assert_refused_unchanged(TooMuch, office, book, ["lake"], office.send, "lake", "a", 6)
        self.assertEqual(office.send("lake", "a", 5), 3)

    def test_the_book_may_be_changed_between_days(self):
        book, office = town_and_lake()
        office.day([5, 0, 10])
        book.grant("mill", 2, 2, 0)
        self.assertEqual(office.day([0, 0, 4]), ([("mill", 2), ("town", 2)], [("lake", 0)]))
        self.assertEqual(move(book, [], "mill", 0), 2)
        self.assertEqual(office.send("lake", "town", 1), 9)
        self.assertEqual(office.day([3, 0, 0]), ([("mill", 2), ("town", 1)], [("lake", 0)]))
        self.assertEqual((office.got("mill"), office.account("mill")), (2, 4))
        self.assertEqual((office.got("town"), office.account("town")), (1, 9))

    def test_days_and_sendings_change_no_book(self):
        book, office = town_and_lake()
        before = told(book)
        office.day([5, 0, 8])
        office.day([0, 0, 2])
        office.send("lake", "town", 3)
        self.assertEqual(told(book), before)

    def test_two_offices_of_one_book(self):
        book = book_of([None], ("a", 0, 5, 5))
        first = Office(book)
        second = Office(book)
        first.dig("lake", 0, 5, 1)
        first.day([9])
        self.assert_refused(NoPond, second.stored, "lake")
        self.assertEqual((first.got("a"), first.account("a"), first.stored("lake"), first.out()), (4, 4, 5, 0))
        self.assertEqual((second.got("a"), second.account("a"), second.out()), (0, 0, 0))
        self.assertEqual(second.dig("lake", 0, 8, 1), 1)
        self.assertEqual(second.day([20]), ([("a", 5)], [("lake", 8)]))
        self.assertEqual((first.got("a"), first.account("a"), first.stored("lake"), first.out()), (4, 4, 5, 0))


class ListsTest(OfficeCase):
    def test_changing_what_a_day_told_changes_nothing(self):
        book, office = town_and_lake()
        rights, ponds = office.day([5, 0, 8])
        before = told_office(office, book, ["lake"])
        rights[0] = ("town", 99)
        rights.append(("city", 9))
        ponds.clear()
        self.assertEqual(told_office(office, book, ["lake"]), before)
        self.assertEqual(office.day([0, 0, 9]), ([("town", 5)], [("lake", 2)]))

    def test_later_days_and_sendings_change_no_list_told_before(self):
        book, office = town_and_lake()
        answer = office.day([1, 0, 8])
        office.send("lake", "town", 4)
        office.day([9, 9, 9])
        self.assertEqual(answer, ([("town", 1)], [("lake", 8)]))

    def test_the_list_of_a_day_stays_as_it_was_and_may_be_changed_later(self):
        book, office = town_and_lake()
        year = [5, 0, 8]
        office.day(year)
        self.assertEqual(year, [5, 0, 8])
        before = told_office(office, book, ["lake"])
        year[0] = 77
        year.append(4)
        self.assertEqual(told_office(office, book, ["lake"]), before)
