"""Rows and signed rows of integers."""
