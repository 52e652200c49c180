"""Parts, diagrams and their records."""
