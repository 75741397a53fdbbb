"""Underwords: members made of mirrors, what lies under what, and one polynomial for each two."""
