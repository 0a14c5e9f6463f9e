"""What both ends of a chain ask for, and chains turned around."""
