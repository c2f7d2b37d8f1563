"""Setsums: numbers told for every set of some names."""
