"""Slate: a sheet of cells that keeps itself reckoned."""
