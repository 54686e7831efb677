"""Twinwalk: two programs walked side by side."""
