"""Mitrehouse: parts drawn by constraints, with exact fractions."""
