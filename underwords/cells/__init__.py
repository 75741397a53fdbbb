"""Products of the elements D_w, and cells."""
