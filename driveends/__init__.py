"""Linear diagrams without directions: their behaviours, driving sets and runs."""
