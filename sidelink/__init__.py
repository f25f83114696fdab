"""Sidelink: a tree of pages that many hands change at once."""
