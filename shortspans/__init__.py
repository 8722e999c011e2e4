"""Shortspans: ranges of numbers written short."""
