"""Curves of the second degree, and the places where they have no point."""
