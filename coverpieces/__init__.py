"""Pieces laid on floors, counted, told by number, barred by papers."""
