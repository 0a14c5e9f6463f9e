"""Values as texts, and lines that are said to a shelf."""
