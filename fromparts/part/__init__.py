"""Parts: what they are good for."""
