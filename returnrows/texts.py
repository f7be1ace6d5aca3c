"""Texts: a row is shown as the text of its words."""


def show_row(row):
    """Return the text of the words of a row."""
    return ", ".join([" ".join([str(letter) for letter in word]) for word in row.rules])
