"""Tablefolk: what two of a few make, told by a table."""
