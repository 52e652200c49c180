"""Generators, machines and depth of behaviours."""
