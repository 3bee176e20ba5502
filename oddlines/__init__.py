"""Webs in which only two with equally many lines may draw or strike the line between them."""
