"""Rows, sources and books: what they hold, how it is found, and a book's text."""

from rowsources.fields import Field, field_line, is_cell
from rowsources.signs import LINE_END, bytes_of, joined

MOST_FIELDS = 5
MOST_SOURCES = 6
MOST_ROWS = 24


class Row:
    """A number, and a cell for each field of the book."""

    def __init__(self, number, cells):
        self.number = number
        self.cells = cells


class Source:
    """A name, and rows whose numbers rise."""

    def __init__(self, name, rows):
        self.name = name
        self.rows = rows


class Book:
    """Fields and sources, each in their order."""

    def __init__(self, fields, sources):
        self.fields = fields
        self.sources = sources


def new_book():
    return Book([Field(bytes_of("a"), False, [])], [])


def field_place(book, name):
    """The number (from 0) of the field with this name, or None."""
    for k, field in enumerate(book.fields):
        if field.name == name:
            return k
    return None


def source_called(book, name):
    """The source with this name, or None."""
    for source in book.sources:
        if source.name == name:
            return source
    return None


def row_known(book, source_name, number):
    """The row that is known by these two, or None."""
    source = source_called(book, source_name)
    if source is None:
        return None
    for row in source.rows:
        if row.number == number:
            return row
    return None


def rows_in_order(book):
    """For each row a pair: the number (from 0) of its source, and the row."""
    pairs = []
    for k, source in enumerate(book.sources):
        pairs.extend([(k, row) for row in source.rows])
    return pairs


def row_count(book):
    return len(rows_in_order(book))


def put_row(source, row):
    """Put the row where its number belongs, in the place of the one with this number, if there is one."""
    ahead = [other for other in source.rows if other.number < row.number]
    behind = [other for other in source.rows if other.number > row.number]
    source.rows = ahead + [row] + behind


def are_cells(book, texts):
    """Whether the texts are a cell for each field of the book."""
    if len(texts) != len(book.fields):
        return False
    return all([is_cell(field, text) for field, text in zip(book.fields, texts)])


def row_line(row):
    return bytes_of(str(row.number)) + bytes_of(": ") + joined(row.cells, bytes_of(" | "))


def book_text(book):
    lines = [field_line(field) for field in book.fields]
    for source in book.sources:
        lines.append(bytes_of("source ") + source.name)
        lines.extend([row_line(row) for row in source.rows])
    return joined([line + [LINE_END] for line in lines], [])
