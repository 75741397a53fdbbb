"""Texts of systems, elements, polynomials and lots."""
