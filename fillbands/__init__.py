"""Fillbands: what comes into being when a sparse system is solved."""
