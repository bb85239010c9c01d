"""Talks between two programs, by grammars, over wires of bytes."""
