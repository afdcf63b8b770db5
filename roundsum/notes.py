"""Shapes written as texts, and read from them."""

from roundsum.errors import NoNote
from roundsum.shapes import is_shape, refuse_no_shape

FIGURES = "0123456789"
MOST_FIGURES = 7


def shown(corners):
    refuse_no_shape(corners)
    return " ".join([f"{right},{up}" for right, up in corners])


# A nought ahead and -0 are written otherwise once they are read, so they are no numbers here.
def is_number(text):
    figures = text[1:] if text.startswith("-") else text
    if not 1 <= len(figures) <= MOST_FIGURES:
        return False
    if not all([figure in FIGURES for figure in figures]):
        return False
    return str(int(text)) == text


def is_corner(text):
    numbers = text.split(",")
    return len(numbers) == 2 and all([is_number(number) for number in numbers])


def corner_of(text):
    numbers = text.split(",")
    return (int(numbers[0]), int(numbers[1]))


def read(text):
    words = text.split(" ")
    if not all([is_corner(word) for word in words]):
        raise NoNote("this text is not written as corners are")
    corners = [corner_of(word) for word in words]
    if not is_shape(corners):
        raise NoNote("the corners of this text are not those of a shape")
    return corners
