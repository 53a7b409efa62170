"""Twoworlds: what is told by what is known."""
