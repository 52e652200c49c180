"""Runs of behaviours."""
