"""Questions: which types have programs, and plans for these."""
