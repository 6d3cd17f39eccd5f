"""Clearsheets: clear sheets laid over one another."""
