"""Risingknobs: when the best levels never go down."""
