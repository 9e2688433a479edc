"""Putting programs in the place of parts, and what libraries do for one another."""
