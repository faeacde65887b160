"""Gapscribe: programs that are never broken."""
