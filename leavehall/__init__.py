"""Leavehall: how many get out of a hall within so many turns."""
