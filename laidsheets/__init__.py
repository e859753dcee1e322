"""Laidsheets: in which order sheets were laid over one another."""
