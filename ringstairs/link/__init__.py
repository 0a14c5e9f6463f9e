"""Rings, chains, deals, and their classes."""
