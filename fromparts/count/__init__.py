"""How many programs there are, and all of them in order."""
