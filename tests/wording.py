"""What can stand in texts, by the words of the document: a reader of its own that tells the first wrong word."""

import re

NUMBER = re.compile(r"(0|-?[1-9][0-9]*)\Z", re.ASCII)


class Wrong(Exception):
    """The word of a line cannot stand, or is missing."""


def number(word, least, most):
    """Whether a word is a number as str writes it, from least to most."""
    return NUMBER.match(word) is not None and least <= int(word) <= most


def is_pair(word, most):
    halves = word.split("/")
    return len(halves) == 2 and all(number(half, 1, most) for half in halves)


def is_key(word):
    return number(word, 1 - 10 ** 30, 10 ** 30 - 1)


def is_value(word):
    return word == "none" or is_key(word)


def is_times(word):
    return is_pair(word, 6) and int(word.split("/")[1]) <= int(word.split("/")[0])


def wrong_rule(words):
    """The index of the first wrong word of RULE, its number of words if one lacks, None if there is none."""
    plus = lambda word: number(word, -6, 6)
    if not words or words[0] not in ("turn", "try"):
        return 0
    kinds = [is_times, plus]
    if words[0] == "turn":
        kinds += [lambda word: is_pair(word, 8), plus]
    wrong = wrong_of(kinds, words)
    if wrong is None:
        p, q = map(int, words[1].split("/"))
        if p + int(words[2]) < 2 * q:
            return 1
    return wrong


def wrong_fill(words):
    """As wrong_rule, of FILL."""
    if not words or words[0] != "fill":
        return 0
    return wrong_of([lambda word: is_pair(word, 12), lambda word: number(word, -12, 12), lambda word: number(word, 1, 5),
                     lambda word: number(word, 2, 6)], words)


def wrong_of(kinds, words):
    for at, kind in enumerate(kinds, start=1):
        if at >= len(words) or not kind(words[at]):
            return at
    return len(kinds) + 1 if len(words) > len(kinds) + 1 else None


def is_order(keys):
    """Whether some tree has these keys in this order: a node ahead of its sides, the left side first."""
    if len(keys) < 2:
        return True
    less = [key for key in keys[1:] if key < keys[0]]
    rest = keys[1 + len(less):]
    return (keys[1:1 + len(less)] == less and all(key > keys[0] for key in rest) and is_order(less) and is_order(rest))


def wrong_in_tree(text):
    """The line and the word that read_tree tells; None if the text is that of a tree."""
    if not isinstance(text, str):
        return 0, 0
    lines = [line.split(" ") for line in text.split("\n")]
    if lines[0][0] != "tree":
        return 0, 0
    wrong = wrong_rule(lines[0][1:])
    if wrong is not None:
        return 0, wrong + 1
    keys = []
    for line, words in enumerate(lines[1:], start=1):
        if not is_key(words[0]) or int(words[0]) in keys or not is_order([*keys, int(words[0])]) or line > 2000:
            return line, 0
        keys.append(int(words[0]))
        if len(words) < 2 or not is_value(words[1]):
            return line, 1
        if len(words) > 2:
            return line, 2
    return None


def wrong_in_shelf(text):
    """As wrong_in_tree, of read_shelf, but for the number that a shelf refuses itself."""
    if not isinstance(text, str):
        return 0, 0
    lines = [line.split(" ") for line in text.split("\n")]
    first = lines[0]
    if first[0] != "shelf":
        return 0, 0
    if len(first) < 2 or not number(first[1], 2, 10 ** 12):
        return 0, 1
    wrong = wrong_fill(first[2:])
    if wrong is not None:
        return 0, wrong + 2
    try:
        wrong_below(lines, int(first[1]))
    except Wrong as why:
        return why.args
    return None


def wrong_below(lines, most):
    """Raises Wrong for the first wrong word of the rows and keys of a shelf."""
    if len(lines) == 1:
        return
    rows, line = [], 1
    while not rows or len(rows[-1]) > 1:
        if line == len(lines):
            raise Wrong(line, 0)
        words, room = lines[line], len(rows[-1]) if rows else 2000
        if words[0] != "row":
            raise Wrong(line, 0)
        row = []
        for at, word in enumerate(words[1:], start=1):
            if not number(word, 1, most) or sum(row) + int(word) > room:
                raise Wrong(line, at)
            row.append(int(word))
        if not row or (rows and sum(row) < room):
            raise Wrong(line, len(words))
        rows.append(row)
        line += 1
    keys = []
    for line in range(line, line + sum(rows[0])):
        if line == len(lines):
            raise Wrong(line, 0)
        words = lines[line]
        if not is_key(words[0]) or (keys and int(words[0]) <= keys[-1]):
            raise Wrong(line, 0)
        keys.append(int(words[0]))
        if len(words) < 2 or not is_value(words[1]):
            raise Wrong(line, 1)
        if len(words) > 2:
            raise Wrong(line, 2)
    if line + 1 < len(lines):
        raise Wrong(line + 1, 0)


def near(text, others):
    """Texts that differ a little: a word or a line left out, doubled, exchanged with the next one, or another one."""
    lines = text.split("\n")
    for at, line in enumerate(lines):
        for other in near_lines(line, others):
            yield "\n".join([*lines[:at], other, *lines[at + 1:]])
        yield "\n".join([*lines[:at], *lines[at + 1:]])
        yield "\n".join([*lines[:at + 1], *lines[at:]])
        yield "\n".join([*lines[:at], *lines[at:at + 2][::-1], *lines[at + 2:]])
        yield "\n".join([*lines[:at], "", *lines[at:]])
        for other in lines:
            yield "\n".join([*lines[:at], other, *lines[at + 1:]])
    yield text + "\n"
    yield text + " "
    yield " " + text


def near_lines(line, others):
    """Lines that differ a little."""
    words = line.split(" ")
    for at, word in enumerate(words):
        yield " ".join([*words[:at], *words[at + 1:]])
        yield " ".join([*words[:at + 1], *words[at:]])
        yield " ".join([*words[:at], *words[at:at + 2][::-1], *words[at + 2:]])
        yield " ".join([*words[:at], "", *words[at:]])
        yield " ".join(words[:at])
        for other in [*others, "0" + word, "+" + word, word + " ", word[:-1], word + "0", "-" + word, word.upper()]:
            yield " ".join([*words[:at], other, *words[at + 1:]])
    yield line + " "
    yield " " + line
