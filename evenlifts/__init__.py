"""Evenlifts: a house raised jack by jack, with the fewest lifts and why no fewer."""
