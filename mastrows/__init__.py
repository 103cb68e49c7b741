"""Mastrows: rows of masts, decided for all directions."""
