"""Texts of webs: how many people there are, and the lines between them."""

from itertools import combinations

from oddlines.bounds import MAX_PEOPLE
from oddlines.errors import BadText
from oddlines.webs import web_error


def web_text(web):
    """Return the text of web."""
    many, lines = web
    words = [f"{a}-{b}" for a, b in lines] if lines else ["none"]
    return " ".join([f"{many}:", *words])


def _web_told(value):
    """Return the web of which value is the text, or what is no web if it is the text of none."""
    head, _, tail = value.partition(": ")
    # Words are looked up among those that can stand, so no figures have to be read, however many.
    counts = {str(count): count for count in range(2, MAX_PEOPLE + 1)}
    if head not in counts:
        return None
    many = counts[head]
    pairs = {f"{a}-{b}": (a, b) for a, b in list(combinations(range(many), 2))}
    words = [] if tail == "none" else tail.split(" ")
    return (many, tuple([pairs.get(word) for word in words]))


def read_web(value):
    """Return the web of which value is the text."""
    if not isinstance(value, str):
        raise BadText()
    web = _web_told(value)
    if web_error(web) is not None:
        raise BadText()
    return web
