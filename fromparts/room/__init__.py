"""Rooms: small models, in which a wish does not hold."""
