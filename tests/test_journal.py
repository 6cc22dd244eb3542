"""[2.5] to [2.8] and the interface of claspwork.journal."""

import itertools
import random
import re
import unittest

from claspwork.deeds import all_deeds, deed_kind
from claspwork.errors import BadDeed, NoSuch, NoText, Unlike
from claspwork.journal import Journal, clasp_by_clasp, deeds_text, read_deeds, works_along
from claspwork.notes import read_work
from claspwork.works import clasps_of, plain_work, staves_in, work_by
from tests.helper import (
    FAR, LOOSE, MIXED, OWN_RINGS, RefusingCase, all_works, great_works, plain_behind, plain_fit, refusal_of,
    small_works, wrong_pairs,
)

NUMBER = "(?:0|[1-9][0-9]*)"
DEEDS = re.compile(rf"{NUMBER}(?:-{NUMBER})?(?: {NUMBER}(?:-{NUMBER})?)*")


def plainly_read(text):
    """The deeds that the text writes, or None: read by a pattern."""
    if text == ".":
        return []
    if not DEEDS.fullmatch(text):
        return None
    deeds = []
    for word in text.split(" "):
        numbers = [int(number) for number in word.split("-")]
        if max(numbers) > 79 or len(numbers) == 2 and numbers[0] >= numbers[1]:
            return None
        deeds.append((numbers[0], numbers[-1]))
    return deeds


class WorksAlong(RefusingCase):
    def test_rows_that_fit(self):
        works = works_along(read_work("[0 1 2]"), [(1, 3), (0, 5), (4, 4)])
        told = ["[0 1 2]", "[0 -1 2]", "(0 -1 2)", "[2 0 -1]"]
        self.assertEqual(works, [read_work(text) for text in told])
        works = works_along((0, 1), [(0, 1), (1, 1), (0, 1), (0, 0)])
        self.assertEqual(works, [(0, 1), (1, 0), (0, 1), (1, 0), (0, 1)])

    def test_edges(self):
        for work in ((), (0, 1), MIXED, LOOSE, OWN_RINGS):
            self.assertEqual(works_along(work, []), [work])
        works = works_along(LOOSE, [(end, end + 1) for end in range(0, 80, 2)])
        self.assertEqual((len(works), works[-1]), (41, OWN_RINGS))

    def test_all_rows_of_two_pairs(self):
        for staves in range(3):
            pairs = list(itertools.product(range(-1, 2 * staves + 1), repeat=2))
            for work in all_works(staves):
                for first, second in itertools.product(pairs, repeat=2):
                    fits = plain_fit(work, *first) and plain_fit(plain_behind(work, *first), *second)
                    if fits:
                        behind = plain_behind(work, *first)
                        works = works_along(work, [first, second])
                        self.assertIs(type(works), list)
                        self.assertEqual(works, [work, behind, plain_behind(behind, *second)])
                    else:
                        self.assert_refused(BadDeed, works_along, work, [first, second])

    def test_rows_that_do_not_fit_are_refused(self):
        work = read_work("[0 1 2]")
        for deeds in ([(0, 0)], [(1, 2)], [(1, 1), (1, 1)], [(1, 1), (2, 2)], [(1, 3), (1, 3)], [(0, 5), (0, 5)]):
            self.assert_refused(BadDeed, works_along, work, deeds)
        # The second deed does not fit the work at hand, but would fit the first one, and the other way about.
        self.assertIsNone(refusal_of(works_along, work, [(1, 1), (1, 2)]))
        self.assert_refused(BadDeed, works_along, work, [(1, 2), (1, 1)])
        for pair in wrong_pairs(6):
            self.assert_refused(BadDeed, works_along, work, [pair])
            self.assert_refused(BadDeed, works_along, work, [(1, 1), (3, 3), pair])
        self.assert_refused(BadDeed, works_along, (), [(0, 0)])


class ClaspByClasp(RefusingCase):
    def test_no_clasp_in_common(self):
        # The clasp (1, 4) frees 2 and 3, which are clasped to each other, and opened at last.
        self.assertEqual(clasp_by_clasp(read_work("[0 1 2]"), read_work("[0 2] [1]")), [(1, 4), (2, 2)])
        self.assertEqual(clasp_by_clasp(read_work("[0 1 2]"), read_work("[1 0 2]")), [(0, 3), (1, 4)])
        self.assertEqual(clasp_by_clasp(read_work("(0 1)"), read_work("(0) (1)")), [(0, 1)])

    def test_the_pair_of_the_clasp_is_told_though_it_may_not_be_the_least(self):
        # 2 and 3 come together where 0 was clasped to 2 and 1 to 3: then so do 0 and 1, which are opened.
        self.assertEqual(clasp_by_clasp((2, 3, 0, 1), (0, 1, 3, 2)), [(2, 3), (0, 0)])

    def test_the_same_clasps(self):
        for work in small_works() + great_works():
            self.assertEqual(clasp_by_clasp(work, work), [])

    def test_one_has_the_clasps_of_the_other(self):
        clasps = clasps_of(MIXED)
        for many in range(len(clasps) + 1):
            fewer = work_by(5, clasps[:many])
            self.assertEqual(clasp_by_clasp(fewer, MIXED), clasps[many:])
            self.assertEqual(clasp_by_clasp(MIXED, fewer), [(low, low) for low, high in clasps[many:]])
        self.assertEqual(clasp_by_clasp(LOOSE, OWN_RINGS), [(end, end + 1) for end in range(0, 80, 2)])
        self.assertEqual(clasp_by_clasp(OWN_RINGS, LOOSE), [(end, end) for end in range(0, 80, 2)])

    def test_edges(self):
        self.assertEqual(clasp_by_clasp((), ()), [])
        self.assertEqual(clasp_by_clasp((0, 1), (1, 0)), [(0, 1)])
        self.assertEqual(clasp_by_clasp((1, 0), (0, 1)), [(0, 0)])

    def check_led(self, work, other):
        deeds = clasp_by_clasp(work, other)
        self.assertIs(type(deeds), list)
        wanted = []
        now = work
        for clasp in clasps_of(other):
            if clasp not in clasps_of(now):
                wanted.append(clasp)
                now = plain_behind(now, *clasp)
        wanted += [(low, low) for low, high in clasps_of(now) if (low, high) not in clasps_of(other)]
        self.assertEqual(deeds, wanted, (work, other))
        works = works_along(work, deeds)
        self.assertEqual(works[-1], other)
        held = set()
        for passed in works:
            there = set(clasps_of(passed)) & set(clasps_of(other))
            self.assertLessEqual(held, there)
            held = there

    def test_small_and_great_works(self):
        for staves in range(4):
            works = all_works(staves)
            for work, other in itertools.product(works, works[::1 + staves]):
                self.check_led(work, other)
        works = great_works()
        for work, other in zip(works, works[7:] + works[:7]):
            self.check_led(work, other)

    def test_works_of_unlike_counts_are_refused(self):
        for one, other in (((), (0, 1)), (MIXED, plain_work(4)), (plain_work(39), LOOSE), ((1, 0), MIXED)):
            self.assert_refused(Unlike, clasp_by_clasp, one, other)
            self.assert_refused(Unlike, clasp_by_clasp, other, one)


class DeedsAsTexts(RefusingCase):
    def test_ordinary_rows(self):
        for deeds, text in (
            ([], "."), ([(0, 0)], "0"), ([(79, 79)], "79"), ([(0, 79)], "0-79"), ([(3, 10)], "3-10"),
            ([(1, 3), (0, 0), (9, 10), (10, 10)], "1-3 0 9-10 10"), ([(5, 5), (5, 5)], "5 5"),
        ):
            self.assertEqual(deeds_text(deeds), text)
            self.assertEqual(read_deeds(text), deeds)

    def test_each_deed_is_read_back(self):
        deeds = [(p, q) for p in range(80) for q in range(p, 80)]
        for deed in deeds:
            read = read_deeds(deeds_text([deed]))
            self.assertIs(type(read), list)
            self.assertIs(type(read[0]), tuple)
            self.assertEqual(read, [deed])
        for many in (2, 3, 40, 300):
            row = deeds[::11][:many]
            self.assertEqual(read_deeds(deeds_text(row)), row)

    def assert_no_text(self, *texts):
        for text in texts:
            self.assert_refused(NoText, read_deeds, text)

    def test_texts_that_are_badly_written_are_refused(self):
        self.assert_no_text(
            "", " ", "  ", "..", ". .", " .", ". ", "0 .", ". 0", "0.", " 0", "0 ", "0  1", "0-1  2", "-", "-1", "1-",
            "--", "0--1", "0-1-2", "0 -1", "0- 1", "0 - 1", "0,1", "+1", "0-+1", "a", "0x1", "1_0", "1e1", "(0, 1)",
            "[0]", "0/1", "0\n", "0\n1", "0\t1", "\u0661", "\u00b2", "1-\u00b2",
        )
        for sign in map(chr, range(32, 127)):
            if sign not in "0123456789":
                self.assert_no_text(sign + "0", "0" + sign)
            if sign not in "0123456789- ":
                self.assert_no_text(f"0{sign}1")

    def test_a_nought_ahead_is_refused(self):
        self.assert_no_text("00", "01", "00-1", "0-01", "0-00", "1 02", "-0", "0-010", "079")

    def test_numbers_beyond_the_ends_are_refused(self):
        for figures in ("80", "81", "100", "790", str(FAR), str(10 * FAR - 1), "9" * 1990, "1" + "0" * 5000):
            self.assert_no_text(figures, f"-{figures}", f"0-{figures}", f"0-1 {figures}")
            self.assert_no_text(f"{figures}-{figures}", f"{figures}-79", f"{figures}-{figures}0")

    def test_a_minus_ahead_of_what_is_not_above_is_refused(self):
        for p in range(80):
            self.assert_no_text(*[f"{p}-{q}" for q in range(p + 1)])
        self.assert_no_text("0-1 3-2", "5-5 1", "10-9")

    def test_texts_with_one_sign_amiss_and_all_short_ones(self):
        texts = ["".join(signs) for many in range(6) for signs in itertools.product("-0179 .", repeat=many)]
        for text in ("1-3 0 9-10 10", "78-79 0-1"):
            for place in range(len(text) + 1):
                texts.append(text[:place] + text[place + 1:])
                for sign in "-0179 .[":
                    texts += [text[:place] + sign + text[place:], text[:place] + sign + text[place + 1:]]
        for text in texts:
            deeds = plainly_read(text)
            if deeds is None:
                self.assert_no_text(text)
            else:
                self.assertEqual(read_deeds(text), deeds, text)


class JournalOfDeeds(RefusingCase):
    def assert_holds(self, journal, deeds, works):
        self.assertEqual(journal.deeds(), deeds)
        self.assertEqual(journal.works(), works)
        self.assertEqual(journal.now(), works[-1])

    def test_an_ordinary_journal(self):
        plain = read_work("[0 1 2]")
        cut = read_work("[0] [1 2]")
        journal = Journal(plain)
        self.assert_holds(journal, [], [plain])
        # The clasp is opened by its greater end, and told by its lesser one.
        self.assertEqual(journal.do((2, 2)), "cut")
        self.assert_holds(journal, [(1, 1)], [plain, cut])
        self.assertEqual(journal.do((0, 1)), "closed")
        self.assert_holds(journal, [(1, 1), (0, 1)], [plain, cut, read_work("(0) [1 2]")])
        self.assertEqual(journal.back(), (0, 1))
        self.assertEqual(journal.back(), (1, 1))
        self.assert_holds(journal, [], [plain])
        self.assertEqual(journal.again(), "cut")
        self.assert_holds(journal, [(1, 1)], [plain, cut])
        self.assertEqual(journal.again(), "closed")
        self.assert_holds(journal, [(1, 1), (0, 1)], [plain, cut, read_work("(0) [1 2]")])

    def test_deeds_are_told_by_the_least_pair_for_the_work_at_which_they_were_done(self):
        journal = Journal(MIXED)
        journal.do((6, 9))
        self.assertEqual(journal.deeds(), [(2, 8)])
        journal.do((9, 9))
        self.assertEqual(journal.deeds(), [(2, 8), (6, 6)])
        self.assertEqual(journal.back(), (6, 6))
        self.assertEqual(journal.back(), (2, 8))

    def test_each_kind_comes_back(self):
        for work in small_works():
            for deed in all_deeds(work) if len(work) <= 6 else all_deeds(work)[:2]:
                journal = Journal(work)
                kind = deed_kind(work, deed)
                self.assertEqual(journal.do(deed), kind)
                self.assertEqual(journal.back(), deed)
                self.assertEqual(journal.again(), kind)
                self.assertEqual(journal.now(), plain_behind(work, *deed))

    def test_back_and_again_go_all_the_way_to_both_ends(self):
        deeds = [(end, end + 1) for end in range(0, 80, 2)]
        works = works_along(LOOSE, deeds)
        journal = Journal(LOOSE)
        for deed in deeds:
            self.assertEqual(journal.do(deed), "closed")
        for turn in range(2):
            for many in range(40, 0, -1):
                self.assert_holds(journal, deeds[:many], works[:many + 1])
                self.assertEqual(journal.back(), deeds[many - 1])
            self.assert_holds(journal, [], [LOOSE])
            self.assert_refused(NoSuch, journal.back)
            for many in range(40):
                self.assert_holds(journal, deeds[:many], works[:many + 1])
                self.assertEqual(journal.again(), "closed")
            self.assert_holds(journal, deeds, works)
            self.assert_refused(NoSuch, journal.again)
            self.assert_holds(journal, deeds, works)

    def test_do_behind_back_leaves_nothing_for_again(self):
        journal = Journal(read_work("[0] [1]"))
        journal.do((0, 1))
        journal.do((2, 3))
        journal.back()
        journal.back()
        journal.do((1, 2))
        self.assert_refused(NoSuch, journal.again)
        self.assert_holds(journal, [(1, 2)], [(0, 1, 2, 3), (0, 2, 1, 3)])
        # What was taken back ahead of it is gone for good; the deed itself is not.
        journal.back()
        self.assertEqual(journal.again(), "joined")
        self.assert_refused(NoSuch, journal.again)
        # The same deed done by `do` leaves nothing either.
        journal.do((0, 3))
        journal.back()
        journal.back()
        journal.do((1, 2))
        self.assert_refused(NoSuch, journal.again)

    def test_a_new_journal_has_nothing_to_take_back_or_do_again(self):
        for work in ((), (0, 1), (1, 0), MIXED, LOOSE, OWN_RINGS):
            journal = Journal(work)
            self.assert_refused(NoSuch, journal.back)
            self.assert_refused(NoSuch, journal.again)
            self.assert_holds(journal, [], [work])

    def test_what_is_refused_changes_nothing(self):
        journal = Journal(MIXED)
        journal.do((2, 8))
        journal.do((0, 4))
        journal.back()
        works = [MIXED, plain_behind(MIXED, 2, 8)]
        for pair in wrong_pairs(10) + [(0, 0), (4, 4), (1, 5), (2, 8), (8, 2), (4, 0)]:
            self.assert_refused(BadDeed, journal.do, pair)
            self.assert_holds(journal, [(2, 8)], works)
        # A refused deed is none that was done: what was taken back can be done again still.
        self.assertEqual(journal.again(), "closed")
        self.assert_refused(NoSuch, journal.again)
        self.assertEqual(journal.deeds(), [(2, 8), (0, 4)])

    def test_what_is_told_is_the_askers_own(self):
        journal = Journal(MIXED)
        journal.do((2, 8))
        deeds = journal.deeds()
        works = journal.works()
        deeds.append((0, 4))
        deeds[0] = (1, 1)
        works.clear()
        self.assert_holds(journal, [(2, 8)], [MIXED, plain_behind(MIXED, 2, 8)])
        deeds = journal.deeds()
        works = journal.works()
        journal.do((0, 4))
        journal.back()
        journal.back()
        self.assertEqual(deeds, [(2, 8)])
        self.assertEqual(works, [MIXED, plain_behind(MIXED, 2, 8)])

    def test_journals_have_nothing_in_common(self):
        one = Journal(MIXED)
        other = Journal(MIXED)
        one.do((0, 4))
        self.assert_holds(other, [], [MIXED])
        one.back()
        self.assert_refused(NoSuch, other.again)
        self.assertEqual(one.again(), "closed")

    def test_long_play_against_a_plain_account(self):
        for seed in range(6):
            chance = random.Random(seed)
            work = great_works()[5 * seed] if seed % 2 else MIXED
            journal = Journal(work)
            done = []
            undone = []
            for step in range(120):
                now = works_along(work, done)[-1]
                asked = chance.choice(("do", "do", "back", "back", "again"))
                if asked == "do":
                    deed = chance.choice(all_deeds(now))
                    self.assertEqual(journal.do(deed), deed_kind(now, deed))
                    done.append(deed)
                    undone.clear()
                elif asked == "back" and done:
                    self.assertEqual(journal.back(), done[-1])
                    undone.append(done.pop())
                elif asked == "again" and undone:
                    self.assertEqual(journal.again(), deed_kind(now, undone[-1]))
                    done.append(undone.pop())
                else:
                    self.assert_refused(NoSuch, getattr(journal, asked))
                self.assert_holds(journal, done, works_along(work, done))
            self.assertEqual(staves_in(journal.now()), staves_in(work))


if __name__ == "__main__":
    unittest.main()
