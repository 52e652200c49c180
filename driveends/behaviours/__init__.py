"""Behaviours and their comparisons."""
