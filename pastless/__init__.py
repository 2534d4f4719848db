"""Pastless: what the cells of a store tell of its past."""
