"""Servedall: which houses to open, and who pays for them."""
