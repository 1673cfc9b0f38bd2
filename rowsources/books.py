"""The interface: a list of calls on one new object, and the list of what they answer."""

from rowsources.calls import answer_alike, answer_drop, answer_missing, answer_normal, answer_nth, answer_put
from rowsources.calls import answer_read, answer_row, answer_same, answer_set, answer_show, answer_size, answer_source
from rowsources.calls import answer_withdraw
from rowsources.records import new_book

READ = 0
SHOW = 1
NORMAL = 2
SAME = 3
ROW = 4
NTH = 5
SET = 6
PUT = 7
DROP = 8
SOURCE = 9
WITHDRAW = 10
ALIKE = 11
MISSING = 12

# For each call's number: how many whole numbers it has, and how many texts behind them.
SHAPES = {
    0: (0, 1), 1: (0, 0), 2: (0, 2), 3: (0, 3), 4: (1, 1), 5: (1, 0), 6: (1, 3),
    7: (0, 2), 8: (1, 1), 9: (0, 1), 10: (0, 1), 11: (1, 2), 12: (0, 1), 13: (0, 0),
}


class Call:
    """A call's number, its whole numbers and its texts, and where the next call begins."""

    def __init__(self, number, numbers, texts, behind):
        self.number = number
        self.numbers = numbers
        self.texts = texts
        self.behind = behind


def call_at(calls, begin):
    shape = SHAPES[calls[begin]]
    at = begin + 1 + shape[0]
    numbers = calls[begin + 1:at]
    texts = []
    while len(texts) < shape[1]:
        end = at + 1 + calls[at]
        texts.append(calls[at + 1:end])
        at = end
    return Call(calls[begin], numbers, texts, at)


def answer_call(book, call):
    numbers = call.numbers
    texts = call.texts
    if call.number == READ:
        return answer_read(book, texts[0])
    if call.number == SHOW:
        return answer_show(book)
    if call.number == NORMAL:
        return answer_normal(book, texts[0], texts[1])
    if call.number == SAME:
        return answer_same(book, texts[0], texts[1], texts[2])
    if call.number == ROW:
        return answer_row(book, numbers[0], texts[0])
    if call.number == NTH:
        return answer_nth(book, numbers[0])
    if call.number == SET:
        return answer_set(book, numbers[0], texts[0], texts[1], texts[2])
    if call.number == PUT:
        return answer_put(book, texts[0], texts[1])
    if call.number == DROP:
        return answer_drop(book, numbers[0], texts[0])
    if call.number == SOURCE:
        return answer_source(book, texts[0])
    if call.number == WITHDRAW:
        return answer_withdraw(book, texts[0])
    if call.number == ALIKE:
        return answer_alike(book, numbers[0], texts[0], texts[1])
    if call.number == MISSING:
        return answer_missing(book, texts[0])
    # SHAPES has no other call than size left.
    return answer_size(book)


def answers(calls):
    book = new_book()
    answered = []
    at = 0
    while at < len(calls):
        call = call_at(calls, at)
        answer = answer_call(book, call)
        answered.append(len(answer))
        answered.extend(answer)
        at = call.behind
    return answered
