"""Calls written by name, and their answers taken apart; used by all tests."""

from rowsources.books import answers

NUMBERS = {"read": 0, "show": 1, "normal": 2, "same": 3, "row": 4, "nth": 5, "set": 6, "put": 7, "drop": 8, "source": 9,
           "withdraw": 10, "alike": 11, "missing": 12, "size": 13}

FAR = 10 ** 18


def as_bytes(text):
    """A str (its signs as bytes) or any row of bytes, as a list."""
    return [ord(sign) for sign in text] if isinstance(text, str) else list(text)


def coded(*calls):
    """The list that answers takes, of calls like ("normal", "name", "Lee, Ann")."""
    numbers = []
    for call in calls:
        numbers.append(NUMBERS[call[0]])
        for given in call[1:]:
            if isinstance(given, int):
                numbers.append(given)
            else:
                numbers.extend([len(given)] + as_bytes(given))
    return numbers


def taken_apart(answered):
    parts = []
    at = 0
    while at < len(answered):
        end = at + 1 + answered[at]
        if end > len(answered):
            raise AssertionError(f"an answer is cut off: {answered}")
        parts.append(answered[at + 1:end])
        at = end
    return parts


def told(*calls):
    """The answers of the calls on one new object, a list each."""
    parts = taken_apart(answers(coded(*calls)))
    if len(parts) != len(calls):
        raise AssertionError(f"{len(calls)} calls, but {len(parts)} answers")
    return parts


def last(*calls):
    return told(*calls)[-1]


def lines(*words):
    """A text of these lines, each ended."""
    return "".join(word + "\n" for word in words)


def text(words):
    """How a text is answered."""
    return [len(words)] + as_bytes(words)


def texts(*words):
    """How texts are answered."""
    answer = [len(words)]
    for word in words:
        answer.extend(text(word))
    return answer


def rows(*pairs):
    """How rows are answered: pairs of a source's number and a row's own."""
    answer = [len(pairs)]
    for pair in pairs:
        answer.extend(pair)
    return answer


def after(book, *calls):
    """The answers of the calls behind a read of the book, and the text that is shown behind each of them."""
    both = [("read", book)]
    for call in calls:
        both.extend([call, ("show",)])
    answered = told(*both)[1:]
    shown = [as_str(answer) for answer in answered[1::2]]
    return list(zip(answered[::2], shown))


def as_str(answer):
    """The str of an answered text."""
    if answer[0] != len(answer) - 1:
        raise AssertionError(f"no text's answer: {answer}")
    return "".join(chr(byte) for byte in answer[1:])


def read_of(*words):
    """What read answers to the text of these lines."""
    return last(("read", lines(*words)))


EXAMPLE = lines(
    "field name text lower plain sorted",
    "field born num",
    "source a",
    "2: Lee, Ann | 1980",
    "5: Bo | ",
    "source b",
    "1: ANN  LEE | 1981",
)

NEW = "field a text\n"
