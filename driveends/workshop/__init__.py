"""Named diagrams and runs that are changed while they are in use."""
