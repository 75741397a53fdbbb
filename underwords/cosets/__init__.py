"""Cosets by lots of letters, and their polynomials R and P."""
