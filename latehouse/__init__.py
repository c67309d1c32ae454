"""Latehouse: a ledger kept by houses that may lie."""
