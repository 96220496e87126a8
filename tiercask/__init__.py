"""Tiercask: wine in tiers of casks, told to the last fraction."""
