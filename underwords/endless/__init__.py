"""Windows of the endless rings, and numbers of members by length."""
