"""Rulescan: words told by many patterns, cut by one table."""
