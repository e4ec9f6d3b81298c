"""Lastshort: loops that read in pieces."""
