from riverdue.errors import BadText
from riverdue.notes import read, shown
from riverdue.rights import Book
from riverdue.river import River
from tests.helper import BRANCHED, CHAIN, STAR, RefusalCase, all_small_rivers, book_of, told

# Each sign that a text may hold.
SIGNS = "\t\n" + "".join(chr(code) for code in range(32, 127) if chr(code) != "%")

SAMPLE = """\
river - 0 0 1 1 2 3
town at 0 wants 1000000 since 1850
farm at 3 wants 70 since 1900
mill at 3 wants 50 since 1900
ford at 6 wants 0 since 1901"""


def sample_book():
    rights = (("mill", 3, 50, 1900), ("ford", 6, 0, 1901), ("farm", 3, 70, 1900), ("town", 0, 1000000, 1850))
    return book_of(BRANCHED, *rights)


def greatest_book():
    book = Book(River([None, *range(39)]))
    for place in range(40):
        name = "zzzzzz" + "abcdefgh"[place // 8] + "abcdefgh"[place % 8]
        book.grant(name, 39 - place, 1000000, 9999)
    return book


class ShownTest(RefusalCase):
    def test_an_empty_book(self):
        self.assertEqual(shown(book_of([None])), "river -")
        self.assertEqual(shown(book_of(CHAIN)), "river - 0 1 2 3")
        self.assertEqual(shown(book_of(STAR)), "river - 0 0 0 0")

    def test_one_right(self):
        self.assertEqual(shown(book_of([None], ("a", 0, 0, 0))), "river -\na at 0 wants 0 since 0")
        self.assertEqual(shown(book_of([None, 0], ("mill", 1, 100, 20))), "river - 0\nmill at 1 wants 100 since 20")

    def test_many_rights_the_oldest_first(self):
        self.assertEqual(shown(sample_book()), SAMPLE)

    def test_points_of_two_figures(self):
        below = [None, *range(12)]
        wanted = "river - 0 1 2 3 4 5 6 7 8 9 10 11\nmill at 12 wants 10 since 1900"
        self.assertEqual(shown(book_of(below, ("mill", 12, 10, 1900))), wanted)

    def test_a_changed_book_is_shown_as_it_is(self):
        book = book_of([None], ("mill", 0, 10, 1900))
        book.part("mill", "barn", 4)
        self.assertEqual(shown(book), "river -\nbarn at 0 wants 4 since 1900\nmill at 0 wants 6 since 1900")
        book.drop("mill")
        self.assertEqual(shown(book), "river -\nbarn at 0 wants 4 since 1900")

    def test_showing_changes_no_book(self):
        book = sample_book()
        shown(book)
        self.assertEqual(told(book), told(sample_book()))


class ReadTest(RefusalCase):
    def assert_reads(self, book):
        text = shown(book)
        again = read(text)
        self.assertIsInstance(again, Book)
        self.assertEqual(told(again), told(book))
        self.assertEqual(shown(again), text)

    def test_sample(self):
        self.assertEqual(told(read(SAMPLE)), told(sample_book()))
        self.assertEqual(shown(read(SAMPLE)), SAMPLE)

    def test_every_small_river(self):
        for below in all_small_rivers(5):
            self.assert_reads(book_of(below))
            self.assert_reads(book_of(below, ("b", len(below) - 1, 5, 7), ("a", 0, 5, 7), ("c", 0, 1, 6)))

    def test_greatest_book(self):
        self.assertLessEqual(len(shown(greatest_book())), 4000)
        self.assert_reads(greatest_book())

    def test_least_and_greatest_numbers(self):
        for amount in (0, 1, 10, 999999, 1000000):
            for date in (0, 1, 10, 999, 9999):
                self.assert_reads(book_of([None], ("a", 0, amount, date)))

    def test_names_that_are_words_of_the_lines(self):
        for name in ("river", "at", "wants", "since", "a", "abcdefgh", "zzzzzzzz"):
            self.assert_reads(book_of([None, 0], (name, 1, 5, 7)))

    def test_dates_are_ordered_by_number(self):
        self.assert_reads(book_of([None], ("a", 0, 5, 1000), ("b", 0, 5, 999)))

    def test_a_book_that_was_read_is_a_book_of_its_own(self):
        first = read(SAMPLE)
        second = read(SAMPLE)
        self.assertEqual(first.drop("town"), 3)
        self.assertEqual(first.grant("town", 6, 5, 7), 4)
        self.assertEqual(shown(second), SAMPLE)
        self.assertEqual(shown(first).split("\n")[1], "town at 6 wants 5 since 7")


class RefusedTest(RefusalCase):
    def assert_bad(self, *texts):
        for text in texts:
            with self.subTest(text[:80]):
                self.assert_refused(BadText, read, text)

    def assert_bad_right(self, *lines):
        """Each line is no right behind a river of two points and a right `b` of the date 5."""
        self.assertEqual(len(read("river - 0\nb at 0 wants 1 since 5\nc at 1 wants 1 since 5").names()), 2)
        self.assert_bad(*["river - 0\nb at 0 wants 1 since 5\n" + line for line in lines])

    def test_no_book(self):
        self.assert_bad("", " ", "\n", "\t", "-", "book", "mill at 0 wants 5 since 7", "~" * 4000, "\n" * 4000)

    def test_line_ends(self):
        self.assert_bad("river -\n", "\nriver -", "river -\n\na at 0 wants 1 since 5", SAMPLE + "\n", "\n" + SAMPLE)
        self.assert_bad(SAMPLE.replace("\n", "\n\n"), SAMPLE.replace("\n", " "), SAMPLE.replace("\n", "\t"))
        self.assert_bad(SAMPLE.replace("\n", " \n"), SAMPLE.replace("\n", "\n "), SAMPLE + " ", " " + SAMPLE)

    def test_the_word_of_the_river(self):
        self.assert_bad("River -", "RIVER -", "rive -", "rivers -", "river", "river ", "river-", " river -", "- river")

    def test_blanks_of_the_river(self):
        self.assert_bad("river  -", "river - ", "river\t-", "river -  0", "river - 0 ", "river -\t0", "river -0")

    def test_points_of_the_river(self):
        self.assert_bad("river 0", "river 0 0", "river - -", "river - 0 -", "river - 1", "river - 0 2", "river - 0 0 3")
        self.assert_bad("river - a", "river - -1", "river - +0", "river - 0.0", "river - 0_0", "river - 0,0")
        self.assert_bad("river --", "river None", "river - None", "river - 00")
        self.assert_bad("river - 0 01", "river - 0 000000001", "river - " + "9" * 3900)

    def test_how_many_points(self):
        longest = " ".join(["river", "-", *[str(point) for point in range(39)]])
        self.assertEqual(read(longest).river().points(), 40)
        self.assert_bad(longest + " 39", longest + " 0", "river -" + " 0" * 40, "river -" + " 0" * 1000)

    def test_words_of_a_right(self):
        self.assert_bad_right("c", "c at", "c at 1", "c at 1 wants", "c at 1 wants 1", "c at 1 wants 1 since")
        self.assert_bad_right("at 1 wants 1 since 5", "c at 1 wants 1 since 5 c", "c at 1 wants 1 since 5 6")
        self.assert_bad_right("c to 1 wants 1 since 5", "c at 1 takes 1 since 5", "c at 1 wants 1 from 5")
        self.assert_bad_right("c wants 1 at 1 since 5", "c At 1 wants 1 since 5", "c at 1 wants 1 Since 5", "", " ")
        self.assert_bad_right("river - 0", "c at 1 wants 1 since 5\nriver - 0")

    def test_blanks_of_a_right(self):
        self.assert_bad_right("c  at 1 wants 1 since 5", "c at  1 wants 1 since 5", " c at 1 wants 1 since 5")
        self.assert_bad_right("c at 1 wants 1 since 5 ", "c at 1 wants 1 since  5", "c\tat 1 wants 1 since 5")
        self.assert_bad_right("c at 1 wants 1 since 5\t", "c at 1wants 1 since 5", "cat 1 wants 1 since 5")

    def test_the_name_of_a_right(self):
        names = ("C", "cC", "c1", "c-d", "c_d", "c.", "-", "0", "cdefghijk", "c" * 3900, "~", "c{", "`c")
        self.assert_bad_right(*[name + " at 1 wants 1 since 6" for name in names])
        self.assert_bad_right(" at 1 wants 1 since 6")

    def test_the_numbers_of_a_right(self):
        bad_numbers = ("", "-", "-1", "-0", "+1", "01", "00", "001", "1.0", "1e1", "1_0", "1,0", "x", "0x1", "1000001")
        for number in (*bad_numbers, "2000000", "10000000", "9" * 3900, "0" * 3900, "9" * 5000):
            self.assert_bad_right(f"c at {number} wants 1 since 5")
            self.assert_bad_right(f"c at 1 wants {number} since 5")
            self.assert_bad_right(f"c at 1 wants 1 since {number}")
        self.assert_bad_right("c at 1 wants 1 since 10000", "c at 1 wants 1 since 99999")
        self.assert_bad_right("c at 1 wants 01000000 since 5", "c at 1 wants 1 since 0005")

    def test_the_point_of_a_right(self):
        self.assert_bad_right("c at 2 wants 1 since 5", "c at 39 wants 1 since 5", "c at 40 wants 1 since 5")

    def test_a_name_twice(self):
        self.assert_bad_right("b at 0 wants 1 since 5", "b at 1 wants 2 since 6")

    def test_another_order_than_that_of_age(self):
        self.assert_bad_right("a at 0 wants 1 since 5", "c at 0 wants 1 since 4", "a at 1 wants 1 since 0")
        self.assert_bad_right("d at 0 wants 1 since 5\nc at 0 wants 1 since 5")
        lines = SAMPLE.split("\n")
        self.assert_bad("\n".join(lines[::-1]), "\n".join([lines[1], lines[0]] + lines[2:]))

    def test_how_many_rights(self):
        text = shown(greatest_book())
        self.assertEqual(len(read(text).names()), 40)
        self.assert_bad(text + "\nzzzzzzzz at 0 wants 1 since 9999")

    def test_each_text_with_one_sign_more_less_or_other(self):
        good = "river - 0\nab at 1 wants 10 since 20\nb at 0 wants 5 since 20"
        texts = {good[:place] + good[place + 1:] for place in range(len(good))}
        for sign in SIGNS:
            texts |= {good[:place] + sign + good[place:] for place in range(len(good) + 1)}
            texts |= {good[:place] + sign + good[place + 1:] for place in range(len(good))}
        texts.discard(good)
        taken = []
        for text in sorted(texts):
            try:
                book = read(text)
            except BadText:
                continue
            self.assertEqual(shown(book), text)
            taken.append(text)
        # Only another name, point, amount or date is a book still, and never with another first line.
        right = r"\n[a-z]{1,8} at [01] wants \d+ since \d+"
        for text in taken:
            with self.subTest(text):
                self.assertRegex(text, rf"\Ariver - 0{right}{right}\Z")
        self.assertIn(good.replace("10", "1"), taken)
        self.assertNotIn(good.replace("10", "010"), taken)
