"""Dialroad: programs for a blind walker on an endless road of dials."""
