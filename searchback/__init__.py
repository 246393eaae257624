"""How many years of a title must be searched."""
