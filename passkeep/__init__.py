"""Passkeep: a kernel of rights."""
