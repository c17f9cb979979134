"""Pairings that stay whatever people would rather."""
