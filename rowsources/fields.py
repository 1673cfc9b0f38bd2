"""Fields: their lines, their cells, and the normal forms of these."""

from rowsources.signs import BAR, BLANK, bytes_of, is_digit, is_great, is_name, is_sign, is_small
from rowsources.signs import joined, number_of, split_at, words_of

STEPS = ("lower", "plain", "sorted")

LONGEST_CELL = 24
LARGEST_NUMBER = 1000000000
GREAT_TO_SMALL = 32


class Field:
    """A name; whether it is of numbers; and, if it is of texts, its steps as words of STEPS."""

    def __init__(self, name, of_numbers, steps):
        self.name = name
        self.of_numbers = of_numbers
        self.steps = steps


def field_line(field):
    if field.of_numbers:
        return bytes_of("field ") + field.name + bytes_of(" num")
    steps = [bytes_of(" " + step) for step in field.steps]
    return bytes_of("field ") + field.name + bytes_of(" text") + joined(steps, [])


def field_of_line(line):
    """The field whose line this is, or None."""
    parts = split_at(line, [BLANK])
    if len(parts) < 3 or parts[0] != bytes_of("field") or not is_name(parts[1]):
        return None
    if parts[2:] == [bytes_of("num")]:
        return Field(parts[1], True, [])
    if parts[2] != bytes_of("text"):
        return None
    steps = [step for step in STEPS if bytes_of(step) in parts[3:]]
    # Written again in their order they must be the same parts: none twice, none misplaced, none unknown.
    if [bytes_of(step) for step in steps] != parts[3:]:
        return None
    return Field(parts[1], False, steps)


def is_cell(field, text):
    if field.of_numbers:
        return is_number_cell(text)
    return is_text_cell(text)


def is_number_cell(text):
    if text == []:
        return True
    number = number_of(text)
    return number is not None and -LARGEST_NUMBER <= number <= LARGEST_NUMBER


def is_text_cell(text):
    if len(text) > LONGEST_CELL or BLANK in text[:1] + text[-1:]:
        return False
    return all([is_sign(byte) and byte != BAR for byte in text])


def normal_form(field, cell):
    form = cell
    for step in field.steps:
        form = after_step(step, form)
    return form


def after_step(step, text):
    if step == "lower":
        return [lowered(byte) for byte in text]
    if step == "plain":
        return joined(words_of([plain_byte(byte) for byte in text]), [BLANK])
    return joined(sorted(words_of(text)), [BLANK])


def lowered(byte):
    return byte + GREAT_TO_SMALL if is_great(byte) else byte


def plain_byte(byte):
    return byte if is_small(byte) or is_great(byte) or is_digit(byte) else BLANK
