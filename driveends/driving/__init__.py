"""Which ends drive the others."""
