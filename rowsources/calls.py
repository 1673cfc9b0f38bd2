"""What each call does to a book, and the numbers that it answers."""

from rowsources.fields import is_cell, normal_form
from rowsources.reading import fill, row_of_line
from rowsources.records import MOST_ROWS, MOST_SOURCES, Book, Source, are_cells, book_text, field_place, put_row
from rowsources.records import row_count, row_known, rows_in_order, source_called
from rowsources.signs import is_name

# The refusals, as the document numbers them.
WRONG_FORM = -1
NO_PLACE = -2
NO_FIELD = -3
NOT_KNOWN = -4
NAME_TAKEN = -5
NO_ROOM = -6


def text_answer(text):
    return [len(text)] + text


def texts_answer(texts):
    answer = [len(texts)]
    for text in texts:
        answer.extend(text_answer(text))
    return answer


def rows_answer(pairs):
    """How rows are answered; the pairs are like those of rows_in_order."""
    answer = [len(pairs)]
    for source_number, row in pairs:
        answer.extend([source_number, row.number])
    return answer


def counts(book):
    return [len(book.fields), len(book.sources), row_count(book)]


def answer_read(book, text):
    # A book of its own is filled, so that a fault leaves the old one as it was.
    fresh = Book([], [])
    fault = fill(fresh, text)
    if fault is not None:
        return list(fault)
    book.fields = fresh.fields
    book.sources = fresh.sources
    return [0] + counts(book)


def answer_show(book):
    return text_answer(book_text(book))


def answer_normal(book, field_name, text):
    place = field_place(book, field_name)
    if place is None:
        return [NO_FIELD]
    field = book.fields[place]
    if not is_cell(field, text):
        return [WRONG_FORM]
    return text_answer(normal_form(field, text))


def answer_same(book, field_name, one, other):
    place = field_place(book, field_name)
    if place is None:
        return [NO_FIELD]
    field = book.fields[place]
    if not is_cell(field, one) or not is_cell(field, other):
        return [WRONG_FORM]
    return [1 if normal_form(field, one) == normal_form(field, other) else 0]


def answer_row(book, number, source_name):
    row = row_known(book, source_name, number)
    if row is None:
        return [NOT_KNOWN]
    return texts_answer(row.cells)


def answer_nth(book, k):
    pairs = rows_in_order(book)
    if not 0 <= k < len(pairs):
        return [NO_PLACE]
    source_number = pairs[k][0]
    row = pairs[k][1]
    return [source_number, row.number] + texts_answer(row.cells)


def answer_set(book, number, source_name, field_name, text):
    row = row_known(book, source_name, number)
    if row is None:
        return [NOT_KNOWN]
    place = field_place(book, field_name)
    if place is None:
        return [NO_FIELD]
    if not is_cell(book.fields[place], text):
        return [WRONG_FORM]
    changed = row.cells[place] != text
    row.cells[place] = text
    return [1 if changed else 0]


def answer_put(book, source_name, line):
    source = source_called(book, source_name)
    if source is None:
        return [NOT_KNOWN]
    row = row_of_line(line)
    if row is None or not are_cells(book, row.cells):
        return [WRONG_FORM]
    is_new = row_known(book, source_name, row.number) is None
    if is_new and row_count(book) == MOST_ROWS:
        return [NO_ROOM]
    put_row(source, row)
    return [1 if is_new else 0]


def answer_drop(book, number, source_name):
    if row_known(book, source_name, number) is None:
        return [NOT_KNOWN]
    source = source_called(book, source_name)
    source.rows = [row for row in source.rows if row.number != number]
    return [row_count(book)]


def answer_source(book, name):
    if not is_name(name):
        return [WRONG_FORM]
    if source_called(book, name) is not None:
        return [NAME_TAKEN]
    if len(book.sources) == MOST_SOURCES:
        return [NO_ROOM]
    book.sources.append(Source(name, []))
    return [len(book.sources)]


def answer_withdraw(book, source_name):
    gone = source_called(book, source_name)
    if gone is None:
        return [NOT_KNOWN]
    book.sources = [source for source in book.sources if source.name != source_name]
    return [len(gone.rows)]


def answer_alike(book, number, source_name, field_name):
    asked = row_known(book, source_name, number)
    if asked is None:
        return [NOT_KNOWN]
    place = field_place(book, field_name)
    if place is None:
        return [NO_FIELD]
    field = book.fields[place]
    form = normal_form(field, asked.cells[place])
    return rows_answer([pair for pair in rows_in_order(book) if normal_form(field, pair[1].cells[place]) == form])


def answer_missing(book, field_name):
    place = field_place(book, field_name)
    if place is None:
        return [NO_FIELD]
    return rows_answer([pair for pair in rows_in_order(book) if pair[1].cells[place] == []])


def answer_size(book):
    filled = 0
    for source in book.sources:
        for row in source.rows:
            filled = filled + len([cell for cell in row.cells if cell != []])
    return counts(book) + [filled]
