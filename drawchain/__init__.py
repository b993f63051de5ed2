"""Drawchain: makers drawn one by one through chains."""
