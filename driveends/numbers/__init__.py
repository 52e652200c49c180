"""Numbers, vectors and matrices modulo a prime."""
