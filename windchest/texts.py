"""An organ's text, read and shown."""

from windchest.errors import NoOrgan
from windchest.organ import Organ
from windchest.words import is_number, number_of


# Where a number stands in the place of a text, or a text in the place of a number, the row is none:
# a written number is neither a row's word nor a name. So the row's word need not be asked here.
def read_part(part):
    return number_of(part) if is_number(part) else part


def read_row(text):
    return tuple([read_part(part) for part in text.split(" ")])


def read_organ(text):
    if not isinstance(text, str):
        raise NoOrgan(None)
    return Organ([read_row(row) for row in text.split("; ")])


def show_row(row):
    return " ".join([str(part) for part in row])


def show_organ(organ):
    return "; ".join([show_row(row) for row in organ.rows()])
