"""Paymill: each day paid by its rules as known, each difference once."""
