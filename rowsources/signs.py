"""Texts as lists of bytes: their signs, names, words and written numbers."""

LINE_END = 10
BLANK = 32
MINUS = 45
ZERO = 48
COLON = 58
BAR = 124

LONGEST_NAME = 12
MOST_DIGITS = 10


def bytes_of(word):
    return [ord(sign) for sign in word]


def is_sign(byte):
    return 32 <= byte <= 126


def is_digit(byte):
    return 48 <= byte <= 57


def is_small(byte):
    return 97 <= byte <= 122


def is_great(byte):
    return 65 <= byte <= 90


def is_name(text):
    if text == [] or len(text) > LONGEST_NAME or not is_small(text[0]):
        return False
    return all([is_small(byte) or is_digit(byte) for byte in text])


def split_at(text, between):
    """What stands before, between and behind the places where between stands; always at least one piece."""
    pieces = []
    begin = 0
    at = 0
    while at < len(text):
        if text[at:at + len(between)] == between:
            pieces.append(text[begin:at])
            at = at + len(between)
            begin = at
        else:
            at = at + 1
    pieces.append(text[begin:])
    return pieces


def joined(pieces, between):
    text = []
    for k, piece in enumerate(pieces):
        if k > 0:
            text.extend(between)
        text.extend(piece)
    return text


def words_of(text):
    return [piece for piece in split_at(text, [BLANK]) if piece != []]


def number_of(text):
    """The whole number that the text writes; None if it writes none, or one of more than MOST_DIGITS digits."""
    below_zero = text[:1] == [MINUS]
    digits = text[1:] if below_zero else text
    # No number that is asked for is longer, and a text may have thousands of digits.
    if len(digits) > MOST_DIGITS:
        return None
    number = 0
    for digit in digits:
        number = number * 10 + digit - ZERO
    if below_zero:
        number = -number
    # Written again it must be the same text: that rules out what is no digit, needless zeros, "-0" and the empty text.
    return number if bytes_of(str(number)) == text else None
