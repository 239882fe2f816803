"""Dealknot: deals of many sides that wait in rows, and all of them that can be done at once."""
