"""Fillings of heaps, and what they tell of classes."""
