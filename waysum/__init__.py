"""Waysum: all ways of a net put together by any two deeds."""
