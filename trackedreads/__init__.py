"""Trackedreads: which reads a reactive program may leave unnoted."""
