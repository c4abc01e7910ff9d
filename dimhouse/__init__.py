"""Dimhouse: programs whose current may fail at any step."""
