"""What lies under what, intervals, and lots as orders."""
