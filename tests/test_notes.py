"""[1.5], [1.6] and the interface of claspwork.notes."""

import itertools
import re
import unittest

from claspwork.chains import rings_in, rows_in, work_from
from claspwork.errors import NoText
from claspwork.notes import read_work, work_text
from claspwork.works import plain_work
from tests.helper import FAR, MIXED, RefusingCase, great_works, refusal_of, small_works, tellings, told_backward

SIGNS = "[]()- .0123"
NUMBER = "-?(?:0|[1-9][0-9]*)"
CHAIN = rf"\[{NUMBER}(?: {NUMBER})*\]|\({NUMBER}(?: {NUMBER})*\)"
WORK = re.compile(rf"(?:{CHAIN})(?: (?:{CHAIN}))*")


def stave_word(end):
    return ("-" if end % 2 else "") + str(end // 2)


def chain_word(brackets, chain):
    return brackets[0] + " ".join(stave_word(end) for end in chain) + brackets[1]


def plainly_read(text):
    """The work that the text writes, or None: read by a pattern."""
    if text == ".":
        return ()
    if not WORK.fullmatch(text):
        return None
    chains = []
    for told in re.findall(r"[\[(][^\])]*", text):
        words = told[1:].split(" ")
        chains.append((told[0], [2 * abs(int(word)) + word.startswith("-") for word in words]))
    entered = [end // 2 for bracket, ends in chains for end in ends]
    if sorted(entered) != list(range(len(entered))) or len(entered) > 40:
        return None
    return work_from([ends for b, ends in chains if b == "["], [ends for b, ends in chains if b == "("])


class WorkText(unittest.TestCase):
    def test_ordinary_works(self):
        self.assertEqual(work_text(MIXED), "[0 -2] (1 -3) (4)")
        self.assertEqual(work_text(plain_work(3)), "[0 1 2]")
        self.assertEqual(work_text((2, 4, 0, 3, 1, 5)), "[-1 0 2]")
        self.assertEqual(work_text(work_from([(6,), (2, 8)], [(4,), (0, 11)])), "[1 4] [3] (0 -5) (2)")

    def test_edges(self):
        self.assertEqual(work_text(()), ".")
        self.assertEqual(work_text((0, 1)), "[0]")
        self.assertEqual(work_text((1, 0)), "(0)")
        self.assertEqual(work_text((3, 1, 2, 0)), "[-0 -1]")
        self.assertEqual(work_text(tuple(range(80))), " ".join(f"[{stave}]" for stave in range(40)))
        own = tuple(end ^ 1 for end in range(80))
        self.assertEqual(work_text(own), " ".join(f"({stave})" for stave in range(40)))
        self.assertEqual(work_text(plain_work(40)), "[" + " ".join(str(stave) for stave in range(40)) + "]")

    def test_rows_first_then_rings_each_in_its_order(self):
        for work in small_works() + great_works():
            words = [chain_word("[]", row) for row in rows_in(work)] + [chain_word("()", k) for k in rings_in(work)]
            self.assertEqual(work_text(work), " ".join(words) or ".")


class ReadWork(RefusingCase):
    def test_each_text_is_read_back_to_its_work(self):
        texts = {}
        for work in small_works() + great_works():
            text = work_text(work)
            self.assertIs(type(text), str)
            read = read_work(text)
            self.assertIs(type(read), tuple)
            self.assertEqual(read, work)
            self.assertEqual(texts.setdefault(text, work), work)

    def test_edges(self):
        self.assertEqual(read_work("."), ())
        for text in ("[0]", "[-0]"):
            self.assertEqual(read_work(text), (0, 1))
        for text in ("(0)", "(-0)"):
            self.assertEqual(read_work(text), (1, 0))

    def test_a_minus_ahead_of_nought_is_its_head(self):
        # Stave 0 is left by its foot, so foot 0 is clasped to foot 2.
        self.assertEqual(read_work("[-0 1]"), (2, 1, 0, 3))
        self.assertEqual(read_work("[1 -0]"), (0, 3, 2, 1))
        self.assertEqual(read_work("(-0 1)"), (2, 3, 0, 1))
        self.assertEqual(read_work("(-0 -1)"), (3, 2, 1, 0))

    def test_whatever_the_order_of_rows_and_rings(self):
        for order in itertools.permutations(("[0 -2]", "(1 -3)", "(4)")):
            self.assertEqual(read_work(" ".join(order)), MIXED)

    def test_from_wherever_and_in_whichever_way_they_are_told(self):
        for text in ("[2 -0] (3 -1) (-4)", "(-1 3) [0 -2] (4)", "(-4) (-3 1) [2 -0]"):
            self.assertEqual(read_work(text), MIXED)
        for work in small_works() + great_works():
            rows = rows_in(work)
            rings = rings_in(work)
            back = [chain_word("()", told_backward(ring)) for ring in reversed(rings)]
            back += [chain_word("[]", told_backward(row)) for row in reversed(rows)]
            self.assertEqual(read_work(" ".join(back) or "."), work)
            for place, ring in enumerate(rings[:3]):
                others = [chain_word("[]", row) for row in rows]
                others += [chain_word("()", k) for k in rings[:place] + rings[place + 1:]]
                for told in tellings(ring):
                    self.assertEqual(read_work(" ".join([chain_word("()", told)] + others)), work)

    def assert_no_text(self, *texts):
        for text in texts:
            self.assert_refused(NoText, read_work, text)

    def test_the_empty_text_and_points_too_many_are_refused(self):
        self.assert_no_text("", "..", ". .", " .", ". ", "[.]", "(.)", "[0] .", ". [0]", "[0].", ".[0]", "[0.]")

    def test_other_signs_are_refused(self):
        for sign in map(chr, range(32, 127)):
            if sign not in "0123456789":
                self.assert_no_text(sign + "[0]", "[0]" + sign, f"[{sign}]", f"[0{sign}]")
            if sign not in " 0123456789":
                self.assert_no_text(f"[0{sign}1]", f"(0{sign}1)", f"[0]{sign}[1]")
            if sign not in "0123456789-":
                self.assert_no_text(f"[{sign}0]")
        self.assert_no_text("[0,1]", "[0, 1]", "{0}", "<0>", "[a]", "[0x0]", "[0_1]", "[+0]", "[1e0 0]", "0", "-0", "x")
        self.assert_no_text("[0\n1]", "[0]\n", "[0]\t[1]", "[\u0660]", "[\u00b2 0 1]")

    def test_no_staves_in_brackets_are_refused(self):
        self.assert_no_text("[]", "()", "[ ]", "( )", "[0] []", "() [0]", "[0] () (1)", "[-]", "(-)")

    def test_brackets_that_do_not_match_are_refused(self):
        self.assert_no_text(
            "[0", "0]", "(0", "0)", "[0)", "(0]", "[0 1)", "(0 1]", "[0]]", "[[0]", "[[0]]", "((0))", "([0])", "[(0)]",
            "[0 (1)]", "[0 [1] 2]", "(0 [1)]", "[0] 1]", "[0] 1", "0 [1]", "[0] (1", "]0[", ")0(", "[0 1", "0 1]",
            "[0][1]", "[0](1)", "[0 1][2]", "[", "]", "(", ")", "[0] ]", "[ [0]",
        )

    def test_blanks_too_many_are_refused(self):
        self.assert_no_text(
            "[0  1]", "[0]  [1]", "(0  1)", "[0]  (1)", " [0]", "[0] ", "  [0]", "[0]  ", "[ 0]", "[0 ]", "( 0)",
            "(0 )", "[ 0 ]", "[- 0]", " ", "  ", "[0] [ 1]", "[0 ] [1]",
        )

    def test_a_nought_ahead_is_refused(self):
        self.assert_no_text("[00]", "[-00]", "[0 01]", "(01 0)", "[0 -01]", "[000]", "[0 1 2 3 4 5 6 7 8 09]")

    def test_a_minus_without_a_number_is_refused(self):
        self.assert_no_text("[-]", "[0 -]", "[- 0]", "(-)", "[--0]", "[0-]", "[0 --1]", "[0-1]", "-", "-[0]", "[0] -")

    def test_a_stave_twice_is_refused(self):
        self.assert_no_text("[0 0]", "[0] [0]", "[0] (0)", "[0 -0]", "(0 1 0)", "(0 1) (-1)", "[0 1] [1 2]", "[0 1 1]")

    def test_a_stave_left_out_is_refused(self):
        self.assert_no_text("[1]", "(1)", "[-1]", "[0 2]", "[0] [2]", "(0) [1 3]", "[39]", "[40]", "[1 2]")
        for figures in (str(FAR), str(10 * FAR - 1), "9" * 1990, "1" + "0" * 5000):
            self.assert_no_text(f"[{figures}]", f"(-{figures})", f"[0 {figures}]", f"[0] ({figures})")

    def test_just_forty_staves_are_read_but_no_more(self):
        for staves in (40, 41, 42, 100, 500):
            words = [str(stave) for stave in range(staves)]
            row = "[" + " ".join(words) + "]"
            ring = "(" + " ".join(words) + ")"
            rows = " ".join(f"[{word}]" for word in words)
            if staves == 40:
                self.assertEqual(read_work(row), plain_work(40))
                self.assertEqual(read_work(rows), tuple(range(80)))
                self.assertEqual(rings_in(read_work(ring)), [tuple(range(0, 80, 2))])
            else:
                self.assert_no_text(row, ring, rows)

    def assert_read_as_plainly(self, text):
        work = plainly_read(text)
        if work is None:
            self.assert_no_text(text)
        else:
            self.assertEqual(read_work(text), work, text)

    def test_all_short_texts(self):
        for many in range(6):
            for signs in itertools.product("[]()- .01", repeat=many):
                self.assert_read_as_plainly("".join(signs))

    def test_texts_with_one_sign_amiss(self):
        for text in ("[0 -2] (1 -3) (4)", "(0) [-1 2]", "[3 -1] [0 2]", "(10 9 8 7 6) [5 4 3 2 1 -0]"):
            self.assertIsNone(refusal_of(read_work, text))
            for place in range(len(text) + 1):
                self.assert_read_as_plainly(text[:place] + text[place + 1:])
                for sign in SIGNS:
                    self.assert_read_as_plainly(text[:place] + sign + text[place:])
                    self.assert_read_as_plainly(text[:place] + sign + text[place + 1:])


if __name__ == "__main__":
    unittest.main()
