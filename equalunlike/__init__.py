"""Equalunlike: which of equal elements stays."""
