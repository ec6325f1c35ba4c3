"""Gapfill: numbered letters between two sides, by lines that lose, double and turn them."""
