"""Scarp: slices of a growing log, answered by a bounded number of stored values."""
