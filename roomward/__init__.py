"""Roomward: a house that makes its own wardens."""
