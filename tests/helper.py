"""What several test files share: the refusals, the sample rivers, and a look at a whole book."""

import itertools
import unittest

from riverdue import errors

REFUSALS = (
    "BadRiver",
    "BadYear",
    "NoPoint",
    "Taken",
    "NoRight",
    "NotShort",
    "TooMuch",
    "Unlike",
    "Harm",
    "NoPond",
    "NotBelow",
    "BadText",
)

MANY_FIGURES = 10 ** 5000

CHAIN = [None, 0, 1, 2, 3]
STAR = [None, 0, 0, 0, 0]
BRANCHED = [None, 0, 0, 1, 1, 2, 3]


def no_points(count):
    """Whole numbers that are no point of a river of so many points."""
    return (-1, -count, count, count + 1, -MANY_FIGURES, MANY_FIGURES)


def all_small_rivers(most):
    """Each river of 1 to `most` points, as its list."""
    for count in range(1, most + 1):
        for lower in itertools.product(*[range(point) for point in range(1, count)]):
            yield [None, *lower]


def told(book):
    """All that a book tells of its rights."""
    return [(name, book.right(name)) for name in book.names()]


class RefusalCase(unittest.TestCase):
    def assert_refused(self, refusal, deed, *args):
        with self.assertRaises(ValueError) as caught:
            deed(*args)
        error = caught.exception
        self.assertIsInstance(error, errors.DueError)
        self.assertEqual([name for name in REFUSALS if isinstance(error, getattr(errors, name))], [refusal.__name__])
