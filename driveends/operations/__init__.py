"""New behaviours from others."""
