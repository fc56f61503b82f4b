"""Lookspoil: what can be told of cells that a look changes."""
