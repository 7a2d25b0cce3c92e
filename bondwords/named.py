"""Tuples that begin with a name: deeds, papers, witnesses."""


def name_of(value):
    """The text with which a tuple begins; None of any other value."""
    if isinstance(value, tuple) and len(value) > 0 and isinstance(value[0], str):
        return value[0]
    return None
