"""The bounds of the package: how large webs, counts and rows of deeds may be."""

MAX_PEOPLE = 10
MAX_SPREAD = 7
MAX_COUNTED = 1000
MAX_DEEDS = 20000
MAX_EDITS = 40
