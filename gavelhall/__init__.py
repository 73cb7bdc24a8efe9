"""Gavelhall: a hall of bundles."""
