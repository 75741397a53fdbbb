"""A desk that keeps members by names, and sayings about them."""
