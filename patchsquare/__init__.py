"""Patchsquare: a text as a square of dark and light cells."""
