"""Archrow: arcs over points of a row, none crossing."""
