"""Maps of the integers, and the map of a chain."""
