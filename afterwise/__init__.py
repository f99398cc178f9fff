"""Afterwise: what the best in hindsight pays, for all rows of asks."""
