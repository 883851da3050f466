"""Sheets cut in a square and a slanted piece, told by whole numbers alone."""
