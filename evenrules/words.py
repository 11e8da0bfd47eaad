"""Numbers as words: just as str writes them, of any length."""

# Python itself refuses to write or to read numbers of more than some 4,300 digits at once.
PIECE = 10 ** 64
PIECE_LENGTH = 64


def number_word(number):
    """The word of an integer."""
    if -PIECE < number < PIECE:
        return str(number)
    rest = abs(number)
    pieces = []
    while rest >= PIECE:
        rest, low = divmod(rest, PIECE)
        pieces.append(str(low).zfill(PIECE_LENGTH))
    pieces.append(str(rest))
    digits = "".join(pieces[::-1])
    return f"-{digits}" if number < 0 else digits


def number_words(numbers):
    """The words of integers, with single spaces between."""
    return " ".join([number_word(number) for number in numbers])


def pair_word(pair):
    """The word of a pair of integers, as 3/1."""
    return f"{number_word(pair[0])}/{number_word(pair[1])}"


def read_number(word):
    """The integer that has this word; None if none has."""
    digits = word[1:] if word.startswith("-") else word
    if not digits.isascii() or not digits.isdigit():
        return None
    if digits.startswith("0") and word != "0":
        return None
    first = len(digits) % PIECE_LENGTH
    number = int(digits[:first]) if first > 0 else 0
    for start in range(first, len(digits), PIECE_LENGTH):
        number = number * PIECE + int(digits[start:start + PIECE_LENGTH])
    return -number if word.startswith("-") else number


def read_pair(word):
    """The pair of integers that is written with a stroke between, as 3/1; None if none is."""
    numbers = [read_number(half) for half in word.split("/")]
    if len(numbers) != 2 or None in numbers:
        return None
    return tuple(numbers)
