"""Webs of members, and sections over them."""
