"""Needforth: what rows that never end need, give and keep up."""
