"""The polynomials R, and flags that count them."""
