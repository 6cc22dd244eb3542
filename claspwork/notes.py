"""Works as texts: rows in square brackets, rings in round ones; and what all texts of Claspwork share."""

from claspwork.chains import rings_in, rows_in, work_from
from claspwork.errors import BadWork, NoText
from claspwork.works import MOST_STAVES

FIGURES = "0123456789"
CLOSING = {"[": "]", "(": ")"}


def work_text(work):
    rows = [chain_text("[", row) for row in rows_in(work)]
    rings = [chain_text("(", ring) for ring in rings_in(work)]
    return text_of_words(rows + rings)


def chain_text(bracket, chain):
    staves = " ".join([stave_text(end) for end in chain])
    closing = CLOSING[bracket]
    return f"{bracket}{staves}{closing}"


def stave_text(end):
    stave = end // 2
    return f"{stave}" if end % 2 == 0 else f"-{stave}"


def read_work(text):
    chains = read_chains(text)
    rows = [ends for bracket, ends in chains if bracket == "["]
    rings = [ends for bracket, ends in chains if bracket == "("]
    try:
        return work_from(rows, rings)
    except BadWork:
        raise NoText("the staves from 0 on do not each stand in the text once, or are too many") from None


def read_chains(text):
    chains = []
    bracket = ""
    for word in words_of_text(text):
        told = word
        if bracket == "":
            bracket = opening_bracket(word)
            chains.append((bracket, []))
            told = word[1:]
        # A bracket too many is left in what is told, so that no stave is read of it.
        closed = told.endswith(CLOSING[bracket])
        chains[-1][1].append(read_stave(told[:-1] if closed else told))
        if closed:
            bracket = ""
    if bracket != "":
        raise NoText(f"{bracket} is not closed")
    return chains


def opening_bracket(word):
    if word[:1] not in CLOSING:
        raise NoText(f"no row or ring begins with {word!r}")
    return word[:1]


def read_stave(word):
    by_head = word.startswith("-")
    stave = read_number(word[1:] if by_head else word, MOST_STAVES - 1)
    return 2 * stave + 1 if by_head else 2 * stave


def text_of_words(words):
    return " ".join(words) if len(words) > 0 else "."


def words_of_text(text):
    # A blank too many leaves an empty word, which nothing is read from.
    return text.split(" ") if text != "." else []


def read_number(word, most):
    if word == "" or not all([sign in FIGURES for sign in word]):
        raise NoText(f"{word!r} is no number in figures")
    if word[0] == "0" and word != "0":
        raise NoText(f"{word} has a nought ahead")
    # The figures are counted first: Python refuses to read very long numbers.
    if len(word) > len(str(most)) or int(word) > most:
        raise NoText(f"{word} is above {most}")
    return int(word)
