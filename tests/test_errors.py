"""[0.4] and the interface of claspwork.errors."""

import unittest

from claspwork import errors
from claspwork.chains import work_from
from claspwork.counted import fewest_many, on_way, works_on_way
from claspwork.deeds import deed_back, deed_kind, deed_to, reclasped, told_deed
from claspwork.fewest import fewest_deeds, judged_paper, nearer_deeds, paper_for
from claspwork.journal import Journal, clasp_by_clasp, read_deeds, works_along
from claspwork.laid import apart_by, thread_score, threads
from claspwork.notes import read_work
from claspwork.numbered import number_of_row, row_numbered
from claspwork.turnrow import turns_between
from claspwork.turns import made_row, row_seen, turn_about, walk_turns
from claspwork.works import made_work, moved_work, work_by
from tests.helper import FAR, LOOSE, OWN_RINGS, RefusingCase, refusal_of

REFUSALS = (
    "BadWork", "BadDeed", "BadRow", "BadStretch", "BadTree", "Unlike",
    "TooMany", "NoSuch", "NoPaper", "Crossed", "NoText",
)


class ErrorClasses(unittest.TestCase):
    def test_clasp_error_stands_straight_under_value_error(self):
        self.assertEqual(errors.ClaspError.__bases__, (ValueError,))

    def test_each_refusal_stands_straight_under_clasp_error(self):
        for name in REFUSALS:
            self.assertEqual(getattr(errors, name).__bases__, (errors.ClaspError,), name)

    def test_no_refusal_stands_under_another_one(self):
        for name in REFUSALS:
            for other in REFUSALS:
                under = issubclass(getattr(errors, name), getattr(errors, other))
                self.assertEqual(under, name == other, (name, other))

    def test_there_are_no_other_classes(self):
        told = {name for name, value in vars(errors).items() if isinstance(value, type)}
        self.assertEqual(told, set(REFUSALS) | {"ClaspError"})

    def test_each_is_taken_as_clasp_error_and_as_value_error(self):
        for name in REFUSALS:
            error = getattr(errors, name)("words")
            self.assertIsInstance(error, errors.ClaspError)
            self.assertIsInstance(error, ValueError)


class RefusalsOfEachStage(RefusingCase):
    def assert_all_refused(self, error_class, calls):
        for call in calls:
            self.assert_refused(error_class, *call)
            error = refusal_of(*call)
            self.assertIsInstance(error, errors.ClaspError)
            self.assertIsInstance(error, ValueError)

    def test_bad_work(self):
        self.assert_all_refused(errors.BadWork, [
            (made_work, [0]), (made_work, [1, 1]), (made_work, [FAR, 0]), (made_work, list(range(82))),
            (work_by, 1, [(0, 2)]), (work_by, 1, [(-1, 0)]), (work_by, 2, [(0, 1), (1, 2)]),
            (moved_work, (0, 1), []), (moved_work, (0, 1), [-1]), (moved_work, (0, 1), [FAR]),
            (work_from, [()], []), (work_from, [], [[]]), (work_from, [(-1,)], []), (work_from, [(2,)], []),
            (work_from, [(0,)], [(1,)]), (work_from, [tuple(range(0, 82, 2))], []),
        ])

    def test_no_text(self):
        # Also where the rows and rings that a text tells make up no work.
        texts = ("", "[]", "[0", "[0)", "[0  1]", " [0]", "[00]", "[-]", "[0 0]", "[1]", f"[{FAR}]")
        self.assert_all_refused(errors.NoText, [(read_work, text) for text in texts])
        texts = ("", "00", "1-0", "0-0", "-1", "80", f"{FAR}", "0  1")
        self.assert_all_refused(errors.NoText, [(read_deeds, text) for text in texts])

    def test_bad_deed(self):
        calls = [(call, (0, 1), (0, 0)) for call in (reclasped, told_deed, deed_back, deed_kind)]
        calls += [(works_along, (0, 1), [(0, 0)]), (works_along, (0, 1), [(0, 1), (0, 1)])]
        self.assert_all_refused(errors.BadDeed, calls + [(Journal((0, 1)).do, (FAR, FAR))])

    def test_unlike(self):
        asked = (deed_to, clasp_by_clasp, threads, thread_score, apart_by)
        asked += (nearer_deeds, fewest_deeds, paper_for, fewest_many, works_on_way)
        calls = [(call, (0, 1), ()) for call in asked]
        # Also where another refusal is due, which is told later.
        calls += [(judged_paper, (0, 1), (), ((), ((FAR, 0),))), (on_way, (), (), (0, 1))]
        calls += [(row_seen, (), (1,)), (turns_between, (), (1,)), (turns_between, (-1, 2), (1,))]
        calls += [(row_numbered, LOOSE, (), -1), (number_of_row, LOOSE, (), [(-1, FAR)])]
        self.assert_all_refused(errors.Unlike, calls)

    def test_too_many(self):
        calls = [(call, LOOSE, OWN_RINGS) for call in (fewest_many, works_on_way)]
        # Here, too, with others that are told later.
        calls += [(row_numbered, LOOSE, OWN_RINGS, -1), (number_of_row, LOOSE, OWN_RINGS, [(-1, FAR)])]
        self.assert_all_refused(errors.TooMany, calls)

    def test_no_such(self):
        calls = [(Journal((0, 1)).back,), (Journal((0, 1)).again,)]
        calls += [(row_numbered, (0, 1), (1, 0), number) for number in (-FAR, -1, 1, FAR)]
        self.assert_all_refused(errors.NoSuch, calls)

    def test_no_paper(self):
        laid = (("bare", (0, 1)),)
        papers = (((), ()), (laid, ()), (laid, ((0, 0),)), (laid, ((FAR, 0),)), ((), ((0, 1),)))
        self.assert_all_refused(errors.NoPaper, [(judged_paper, (0, 1), (1, 0), paper) for paper in papers])

    def test_bad_row(self):
        rows = ([], [(0, 0)], [(1, 0)], [(0, 1), (0, 0)], [(FAR, -FAR)])
        calls = [(number_of_row, (0, 1), (1, 0), row) for row in rows]
        calls += [(made_row, numbers) for numbers in ([0], [2], [1, -1], [FAR], [-FAR, 1], list(range(1, 42)))]
        self.assert_all_refused(errors.BadRow, calls)

    def test_bad_stretch(self):
        wrong = ((-1, 0), (1, 0), (0, 2), (2, 2), (-FAR, FAR), (FAR, FAR))
        calls = [(turn_about, (1, 2), first, last) for first, last in wrong]
        calls += [(walk_turns, (1, 2), [(0, 1), turn]) for turn in wrong]
        self.assert_all_refused(errors.BadStretch, calls + [(turn_about, (), 0, 0)])


if __name__ == "__main__":
    unittest.main()
