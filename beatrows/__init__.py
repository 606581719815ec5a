"""Beatrows: rows of beats told by equations."""
