"""Words, types, and what is made of them."""
