"""Pursewright: programs that carry a purse, and papers of what they cost."""
