"""Wholesides: shapes laid piece by piece along whole sides."""
