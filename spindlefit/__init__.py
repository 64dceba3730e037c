"""Spindlefit: machines that exchange spindles."""
