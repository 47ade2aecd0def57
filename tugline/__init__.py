"""Tugline: answers that are pulled."""
