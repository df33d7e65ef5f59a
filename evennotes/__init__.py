"""Evennotes: what always holds in programs whose ways nobody knows."""
