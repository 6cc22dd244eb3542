"""[0.4] and the interface of claspwork.errors."""

import unittest

from claspwork import errors
from claspwork.chains import work_from
from claspwork.works import made_work, moved_work, work_by
from tests.helper import FAR, RefusingCase, refusal_of

REFUSALS = (
    "BadWork", "BadDeed", "BadRow", "BadStretch", "BadTree", "Unlike",
    "TooMany", "NoSuch", "NoPaper", "Crossed", "NoText",
)


class ErrorClasses(unittest.TestCase):
    def test_clasp_error_stands_straight_under_value_error(self):
        self.assertEqual(errors.ClaspError.__bases__, (ValueError,))

    def test_each_refusal_stands_straight_under_clasp_error(self):
        for name in REFUSALS:
            self.assertEqual(getattr(errors, name).__bases__, (errors.ClaspError,), name)

    def test_no_refusal_stands_under_another_one(self):
        for name in REFUSALS:
            for other in REFUSALS:
                under = issubclass(getattr(errors, name), getattr(errors, other))
                self.assertEqual(under, name == other, (name, other))

    def test_there_are_no_other_classes(self):
        told = {name for name, value in vars(errors).items() if isinstance(value, type)}
        self.assertEqual(told, set(REFUSALS) | {"ClaspError"})

    def test_each_is_taken_as_clasp_error_and_as_value_error(self):
        for name in REFUSALS:
            error = getattr(errors, name)("words")
            self.assertIsInstance(error, errors.ClaspError)
            self.assertIsInstance(error, ValueError)


class RefusalsOfStageOne(RefusingCase):
    def test_each_is_just_bad_work(self):
        calls = [
            (made_work, [0]), (made_work, [1, 1]), (made_work, [FAR, 0]), (made_work, list(range(82))),
            (work_by, 1, [(0, 2)]), (work_by, 1, [(-1, 0)]), (work_by, 2, [(0, 1), (1, 2)]),
            (moved_work, (0, 1), []), (moved_work, (0, 1), [-1]), (moved_work, (0, 1), [FAR]),
            (work_from, [()], []), (work_from, [], [[]]), (work_from, [(-1,)], []), (work_from, [(2,)], []),
            (work_from, [(0,)], [(1,)]), (work_from, [tuple(range(0, 82, 2))], []),
        ]
        for call in calls:
            self.assert_refused(errors.BadWork, *call)
            error = refusal_of(*call)
            self.assertIsInstance(error, errors.ClaspError)
            self.assertIsInstance(error, ValueError)


if __name__ == "__main__":
    unittest.main()
