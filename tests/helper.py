"""What several test files share: the refusals, the sample rivers, and a look at a whole book or office."""

import itertools
import unittest

from riverdue import errors
from riverdue.rights import Book
from riverdue.river import River

REFUSALS = (
    "BadRiver",
    "BadYear",
    "NoPoint",
    "Taken",
    "NoRight",
    "NotShort",
    "TooMuch",
    "Unlike",
    "Harm",
    "NoPond",
    "NotBelow",
    "BadText",
)

MANY_FIGURES = 10 ** 5000

CHAIN = [None, 0, 1, 2, 3]
STAR = [None, 0, 0, 0, 0]
BRANCHED = [None, 0, 0, 1, 1, 2, 3]


def no_points(count):
    """Whole numbers that are no point of a river of so many points."""
    return (-1, -count, count, count + 1, -MANY_FIGURES, MANY_FIGURES)


def all_small_rivers(most):
    """Each river of 1 to `most` points, as its list."""
    for count in range(1, most + 1):
        for lower in itertools.product(*[range(point) for point in range(1, count)]):
            yield [None, *lower]


def way_by_words(below, point):
    if point is None:
        return []
    return [point] + way_by_words(below, below[point])


def above_by_words(below, point):
    return [other for other in range(len(below)) if point in way_by_words(below, other)]


def bad_years(count):
    """Lists that are no year of a river of so many points."""
    for length in (0, count - 1, count + 1):
        yield [1] * length
    for point in range(count):
        for bad in (-1, 1000001):
            year = [1] * count
            year[point] = bad
            yield year


def book_of(below, *rights):
    """A book of a river and of rights, each told by its name, point, amount and date."""
    book = Book(River(below))
    for right in rights:
        book.grant(*right)
    return book


def told(book):
    """All that a book tells of its river and rights."""
    river = book.river()
    below = [river.below(point) for point in range(river.points())]
    return (below, [(name, book.right(name)) for name in book.names()])


def told_rights(book):
    return told(book)[1]


def told_office(office, book, ponds):
    """All that an office of a book tells of the ponds of these names, of the rights, and of what ran out."""
    stored = [(name, office.stored(name)) for name in ponds]
    rights = [(name, office.got(name), office.account(name)) for name in book.names()]
    return (told(book), stored, rights, office.out())


class RefusalCase(unittest.TestCase):
    def assert_refused(self, refusal, deed, *args):
        with self.assertRaises(ValueError) as caught:
            deed(*args)
        error = caught.exception
        self.assertIsInstance(error, errors.DueError)
        self.assertEqual([name for name in REFUSALS if isinstance(error, getattr(errors, name))], [refusal.__name__])


class BookCase(RefusalCase):
    def assert_refused_unchanged(self, refusal, book, deed, *args):
        before = told(book)
        self.assert_refused(refusal, deed, *args)
        self.assertEqual(told(book), before)
