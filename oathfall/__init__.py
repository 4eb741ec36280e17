"""Oathfall: what lands have sworn, and what comes of it."""
