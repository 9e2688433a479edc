"""Fromparts: what can be put together from typed parts."""
