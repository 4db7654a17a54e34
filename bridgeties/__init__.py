"""Bridgeties: islands with wished numbers of bridges, laid so that all hang together."""
