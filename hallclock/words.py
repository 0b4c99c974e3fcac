"""Texts and their words: told words, names, numbers and marks."""

from hallclock.errors import BadSign

TOLD = (
    "pool", "holds", "door", "rank", "at", "draws", "upto", "gaps", "to", "from", "then", "way", "takes",
    "desk", "hands", "ranked", "rests", "gate", "opens", "for", "below", "fork", "by", "turns", "number",
    "least", "lend", "of", "give", "exit", "change",
)
MARKS = (".", ",")
LETTERS = "abcdefghijklmnopqrstuvwxyz"
FIGURES = "0123456789"
PARTING = " \n"
MOST_SIGNS = 6000
MOST_LETTERS = 8
MOST_FIGURES = 4


def row_end(text, spot, signs):
    end = spot
    while end < len(text) and text[end] in signs:
        end += 1
    return end


def is_row(word, signs, most):
    return 1 <= len(word) <= most and row_end(word, 0, signs) == len(word)


def is_number_upto(word, most):
    return is_row(word, FIGURES, most) and (word == "0" or word[0] != "0")


def is_number(word):
    return is_number_upto(word, MOST_FIGURES)


def is_name(word):
    return is_row(word, LETTERS, MOST_LETTERS) and word not in TOLD


def is_word(word):
    return is_row(word, LETTERS, MOST_LETTERS) or is_number(word) or word in MARKS


def word_end(text, spot):
    for signs in (LETTERS, FIGURES):
        if text[spot] in signs:
            return row_end(text, spot, signs)
    return spot + 1


def words(text):
    if not isinstance(text, str) or len(text) > MOST_SIGNS:
        raise BadSign(0)
    found = []
    spot = 0
    while spot < len(text):
        if text[spot] in PARTING:
            spot += 1
            continue
        # A row is taken whole ahead of its judging: a wrong one is told at its first sign.
        end = word_end(text, spot)
        word = text[spot:end]
        if not is_word(word):
            raise BadSign(spot)
        found.append(word)
        spot = end
    return found
