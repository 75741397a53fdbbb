"""The algebra of the members of a system."""
