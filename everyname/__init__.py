"""Everyname: set programs over any number of names."""
