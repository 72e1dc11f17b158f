"""Watchednodes: a small tree of nodes that several houses keep alike, and watch."""
