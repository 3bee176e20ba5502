"""Texts of rows of deeds."""

from oddlines.bounds import MAX_DEEDS, MAX_PEOPLE
from oddlines.deeds import is_deed
from oddlines.errors import BadText


def _deed_text(deed):
    word, *people = deed
    return " ".join([word, *[str(person) for person in people]])


def deeds_text(some):
    """Return the text of some."""
    return "; ".join([_deed_text(deed) for deed in some]) if some else "none"


def _deed_told(text, people):
    """Return the deed of which text is the text, or what is no deed; people are found by their texts."""
    word, *others = text.split(" ")
    return (word, *[people.get(other) for other in others])


def read_deeds(value):
    """Return the deeds of which value is the text."""
    if not isinstance(value, str):
        raise BadText()
    if value == "none":
        return ()
    people = {str(person): person for person in range(MAX_PEOPLE)}
    some = tuple([_deed_told(text, people) for text in value.split("; ")])
    if len(some) > MAX_DEEDS or not all([is_deed(MAX_PEOPLE, deed) for deed in some]):
        raise BadText()
    return some
