"""What each call does to a book, and the numbers that it answers."""

from rowsources.fields import is_cell, normal_form
from rowsources.reading import fill
from rowsources.records import Book, book_text, field_place, row_known, rows_in_order

# The refusals, as the document numbers them.
NO_CELL = -1
NO_PLACE = -2
NO_FIELD = -3
NO_ROW = -4


def text_answer(text):
    return [len(text)] + text


def texts_answer(texts):
    answer = [len(texts)]
    for text in texts:
        answer.extend(text_answer(text))
    return answer


def counts(book):
    return [len(book.fields), len(book.sources), len(rows_in_order(book))]


def answer_read(book, text):
    # A book of its own is filled, so that a fault leaves the old one as it was.
    fresh = Book([], [])
    fault = fill(fresh, text)
    if fault is not None:
        return list(fault)
    book.fields = fresh.fields
    book.sources = fresh.sources
    return [0] + counts(book)


def answer_show(book):
    return text_answer(book_text(book))


def answer_normal(book, field_name, text):
    place = field_place(book, field_name)
    if place is None:
        return [NO_FIELD]
    field = book.fields[place]
    if not is_cell(field, text):
        return [NO_CELL]
    return text_answer(normal_form(field, text))


def answer_same(book, field_name, one, other):
    place = field_place(book, field_name)
    if place is None:
        return [NO_FIELD]
    field = book.fields[place]
    if not is_cell(field, one) or not is_cell(field, other):
        return [NO_CELL]
    return [1 if normal_form(field, one) == normal_form(field, other) else 0]


def answer_row(book, number, source_name):
    row = row_known(book, source_name, number)
    if row is None:
        return [NO_ROW]
    return texts_answer(row.cells)


def answer_nth(book, k):
    places = rows_in_order(book)
    if not 0 <= k < len(places):
        return [NO_PLACE]
    source_number = places[k][0]
    row = places[k][1]
    return [source_number, row.number] + texts_answer(row.cells)


def answer_set(book, number, source_name, field_name, text):
    row = row_known(book, source_name, number)
    if row is None:
        return [NO_ROW]
    place = field_place(book, field_name)
    if place is None:
        return [NO_FIELD]
    if not is_cell(book.fields[place], text):
        return [NO_CELL]
    changed = row.cells[place] != text
    row.cells[place] = text
    return [1 if changed else 0]


def answer_size(book):
    filled = 0
    for source in book.sources:
        for row in source.rows:
            filled = filled + len([cell for cell in row.cells if cell != []])
    return counts(book) + [filled]
