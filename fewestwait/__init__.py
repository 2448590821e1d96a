"""Fewestwait: who is served next, and which line to join."""
