"""Bendproof: nets of sums and bends, and papers for what they never do."""
