"""[0.4] and the interface of claspwork.errors."""

import unittest

from claspwork import errors
from claspwork.chains import work_from
from claspwork.deeds import deed_back, deed_kind, deed_to, reclasped, told_deed
from claspwork.journal import Journal, clasp_by_clasp, read_deeds, works_along
from claspwork.laid import apart_by, thread_score, threads
from claspwork.notes import read_work
from claspwork.works import made_work, moved_work, work_by
from tests.helper import FAR, RefusingCase, refusal_of

REFUSALS = (
    "BadWork", "BadDeed", "BadRow", "BadStretch", "BadTree", "Unlike",
    "TooMany", "NoSuch", "NoPaper", "Crossed", "NoText",
)


class ErrorClasses(unittest.TestCase):
    def test_clasp_error_stands_straight_under_value_error(self):
        self.assertEqual(errors.ClaspError.__bases__, (ValueError,))

    def test_each_refusal_stands_straight_under_clasp_error(self):
        for name in REFUSALS:
            self.assertEqual(getattr(errors, name).__bases__, (errors.ClaspError,), name)

    def test_no_refusal_stands_under_another_one(self):
        for name in REFUSALS:
            for other in REFUSALS:
                under = issubclass(getattr(errors, name), getattr(errors, other))
                self.assertEqual(under, name == other, (name, other))

    def test_there_are_no_other_classes(self):
        told = {name for name, value in vars(errors).items() if isinstance(value, type)}
        self.assertEqual(told, set(REFUSALS) | {"ClaspError"})

    def test_each_is_taken_as_clasp_error_and_as_value_error(self):
        for name in REFUSALS:
            error = getattr(errors, name)("words")
            self.assertIsInstance(error, errors.ClaspError)
            self.assertIsInstance(error, ValueError)


class RefusalsOfEachStage(RefusingCase):
    def assert_all_refused(self, error_class, calls):
        for call in calls:
            self.assert_refused(error_class, *call)
            error = refusal_of(*call)
            self.assertIsInstance(error, errors.ClaspError)
            self.assertIsInstance(error, ValueError)

    def test_bad_work(self):
        self.assert_all_refused(errors.BadWork, [
            (made_work, [0]), (made_work, [1, 1]), (made_work, [FAR, 0]), (made_work, list(range(82))),
            (work_by, 1, [(0, 2)]), (work_by, 1, [(-1, 0)]), (work_by, 2, [(0, 1), (1, 2)]),
            (moved_work, (0, 1), []), (moved_work, (0, 1), [-1]), (moved_work, (0, 1), [FAR]),
            (work_from, [()], []), (work_from, [], [[]]), (work_from, [(-1,)], []), (work_from, [(2,)], []),
            (work_from, [(0,)], [(1,)]), (work_from, [tuple(range(0, 82, 2))], []),
        ])

    def test_no_text(self):
        # Also where the rows and rings that a text tells make up no work.
        texts = ("", "[]", "[0", "[0)", "[0  1]", " [0]", "[00]", "[-]", "[0 0]", "[1]", f"[{FAR}]")
        self.assert_all_refused(errors.NoText, [(read_work, text) for text in texts])
        texts = ("", "00", "1-0", "0-0", "-1", "80", f"{FAR}", "0  1")
        self.assert_all_refused(errors.NoText, [(read_deeds, text) for text in texts])

    def test_bad_deed(self):
        calls = [(call, (0, 1), (0, 0)) for call in (reclasped, told_deed, deed_back, deed_kind)]
        calls += [(works_along, (0, 1), [(0, 0)]), (works_along, (0, 1), [(0, 1), (0, 1)])]
        self.assert_all_refused(errors.BadDeed, calls + [(Journal((0, 1)).do, (FAR, FAR))])

    def test_unlike(self):
        asked = (deed_to, clasp_by_clasp, threads, thread_score, apart_by)
        self.assert_all_refused(errors.Unlike, [(call, (0, 1), ()) for call in asked])

    def test_no_such(self):
        self.assert_all_refused(errors.NoSuch, [(Journal((0, 1)).back,), (Journal((0, 1)).again,)])


if __name__ == "__main__":
    unittest.main()
