"""The letters and figures of names and numbers."""

LETTERS = "abcdefghijklmnopqrstuvwxyz"
FIGURES = "0123456789"
