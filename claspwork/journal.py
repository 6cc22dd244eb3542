"""Rows of deeds: done, written as texts, and kept in a journal that goes back and again."""

from claspwork.deeds import clasps_gained, deed_kind, reclasped, told_deed
from claspwork.errors import NoSuch, NoText
from claspwork.notes import read_number, text_of_words, words_of_text
from claspwork.works import MOST_STAVES, clasps_of, refuse_unlike


def works_along(work, deeds):
    passed = [work]
    for deed in deeds:
        passed.append(reclasped(passed[-1], deed))
    return passed


def clasp_by_clasp(work, other):
    refuse_unlike(work, other)
    deeds = []
    now = work
    for clasp in clasps_of(other):
        # A clasp may have come by itself with one ahead of it.
        if now[clasp[0]] != clasp[1]:
            deeds.append(clasp)
            now = reclasped(now, clasp)
    return deeds + [(low, low) for low, high in clasps_gained(other, now)]


def deeds_text(deeds):
    return text_of_words([deed_text(deed[0], deed[1]) for deed in deeds])


def deed_text(low, high):
    return f"{low}" if low == high else f"{low}-{high}"


def read_deeds(text):
    return [read_deed(word) for word in words_of_text(text)]


def read_deed(word):
    parts = word.partition("-")
    low = read_number(parts[0], 2 * MOST_STAVES - 1)
    if parts[1] == "":
        return (low, low)
    high = read_number(parts[2], 2 * MOST_STAVES - 1)
    if high <= low:
        raise NoText(f"{high} is not above {low}")
    return (low, high)


class Journal:
    def __init__(self, work):
        self.passed_works = [work]
        self.done_deeds = []
        self.undone_deeds = []

    def now(self):
        return self.passed_works[-1]

    def deeds(self):
        return list(self.done_deeds)

    def works(self):
        return list(self.passed_works)

    def do(self, deed):
        kind = self.go_on(deed)
        self.undone_deeds.clear()
        return kind

    def go_on(self, deed):
        work = self.now()
        # A deed that does not fit is refused by the first of these, ahead of any change.
        kind = deed_kind(work, deed)
        self.done_deeds.append(told_deed(work, deed))
        self.passed_works.append(reclasped(work, deed))
        return kind

    def back(self):
        if len(self.done_deeds) == 0:
            raise NoSuch("there is no deed to be taken back")
        self.passed_works.pop()
        self.undone_deeds.append(self.done_deeds.pop())
        return self.undone_deeds[-1]

    def again(self):
        if len(self.undone_deeds) == 0:
            raise NoSuch("there is no deed to be done again")
        return self.go_on(self.undone_deeds.pop())
