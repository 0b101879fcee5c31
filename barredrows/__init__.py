"""Barredrows: any bits through a medium that bars some rows of signs."""
