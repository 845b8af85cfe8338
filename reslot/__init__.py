"""Reslot: appointments moved one at a time."""
