"""Helmsum: rows of exact numbers moved by sums, steered, seen and set to rest."""
