"""Units that need, want and bar one another, turned on and off by plans."""
