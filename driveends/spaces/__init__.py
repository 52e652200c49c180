"""Spaces of vectors modulo a prime."""
