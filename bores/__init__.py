"""Bores: rows of layers likened, ordered, and drawn between."""
