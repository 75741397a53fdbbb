"""Loose members, and diagrams that stand for them."""
