"""Mirrorbook: one table of ranks and its mirror."""
