"""Numbers with s, and polynomials."""
