"""Thinnets: nets of ties with lengths, thinned so that no way grows too long."""
