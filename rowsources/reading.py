"""Strict reading: a text's lines taken into a book, up to the first fault."""

from rowsources.fields import field_of_line
from rowsources.records import MOST_FIELDS, MOST_ROWS, MOST_SOURCES, Row, Source, are_cells, field_place, row_count
from rowsources.records import source_called
from rowsources.signs import BAR, BLANK, COLON, LINE_END, bytes_of, is_name, is_sign, number_of, split_at

LARGEST_ROW_NUMBER = 999

# The reasons of a fault, as the document numbers them; NO_FAULT is none of them.
NO_FAULT = 0
NOT_ENDED_OR_NO_SIGN = 1
NO_SHAPE = 2
FIELD_MISPLACED = 3
SOURCE_MISPLACED = 4
ROW_MISPLACED = 5
NO_CELLS = 6
TOO_MANY_ROWS = 7
NO_FIELDS = 8


def fill(book, text):
    """Take the text's lines into the book, which is empty. The first fault's (line, reason), or None."""
    lines = split_at(text, [LINE_END])
    behind_last = lines.pop()
    for number, line in enumerate(lines, start=1):
        reason = take_line(book, line)
        if reason != NO_FAULT:
            return (number, reason)
    if behind_last != []:
        return (len(lines) + 1, NOT_ENDED_OR_NO_SIGN)
    if book.fields == []:
        return (len(lines) + 1, NO_FIELDS)
    return None


def take_line(book, line):
    if not all([is_sign(byte) for byte in line]):
        return NOT_ENDED_OR_NO_SIGN
    field = field_of_line(line)
    if field is not None:
        return take_field(book, field)
    name = source_name_of_line(line)
    if name is not None:
        return take_source(book, name)
    row = row_of_line(line)
    if row is not None:
        return take_row(book, row)
    return NO_SHAPE


def take_field(book, field):
    if book.sources != [] or len(book.fields) == MOST_FIELDS or field_place(book, field.name) is not None:
        return FIELD_MISPLACED
    book.fields.append(field)
    return NO_FAULT


def take_source(book, name):
    if book.fields == [] or len(book.sources) == MOST_SOURCES or source_called(book, name) is not None:
        return SOURCE_MISPLACED
    book.sources.append(Source(name, []))
    return NO_FAULT


def take_row(book, row):
    if book.sources == []:
        return ROW_MISPLACED
    rows = book.sources[-1].rows
    if rows != [] and row.number <= rows[-1].number:
        return ROW_MISPLACED
    if not are_cells(book, row.cells):
        return NO_CELLS
    if row_count(book) == MOST_ROWS:
        return TOO_MANY_ROWS
    rows.append(row)
    return NO_FAULT


def source_name_of_line(line):
    """The name in a source's line, or None if it is no such line."""
    opening = bytes_of("source ")
    name = line[len(opening):]
    return name if line[:len(opening)] == opening and is_name(name) else None


def row_of_line(line):
    """The row of a line that has a row's shape, or None; its texts needn't be cells."""
    if COLON not in line:
        return None
    colon = line.index(COLON)
    number = number_of(line[:colon])
    if number is None or not 1 <= number <= LARGEST_ROW_NUMBER:
        return None
    if line[colon + 1:colon + 2] != [BLANK]:
        return None
    texts = split_at(line[colon + 2:], bytes_of(" | "))
    if any([BAR in text for text in texts]):
        return None
    return Row(number, texts)
