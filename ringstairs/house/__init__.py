"""Named deals on a shelf, hands that work on it, and its log."""
