"""Rows of integers: their order, and their text."""


def ascending(rows):
    """The list of some tuples of integers from 0 to 9999, ascending in Python's order, each once."""
    # With four digits for each integer the texts have the order of the tuples, and texts are sorted without doubt.
    by_text = {"".join([f"{number:04d}" for number in row]): row for row in rows}
    return [by_text[text] for text in sorted([str(text) for text in by_text])]


def spaced(numbers):
    """The text of some integers, with one blank between two of them."""
    return " ".join([str(number) for number in numbers])
