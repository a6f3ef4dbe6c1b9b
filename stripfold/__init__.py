"""Stripfold: a strip of stamps folded to a pile."""
