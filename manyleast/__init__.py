"""Manyleast: a long row that changes, kept by halves of worth."""
