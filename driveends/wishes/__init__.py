"""What must be added to a part to reach a wished behaviour."""
