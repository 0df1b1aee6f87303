"""Bridgeward: answers about graphs, with warrants, kept up under edits."""
