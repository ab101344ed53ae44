"""Piecelay: code for a small machine, laid from ready pieces."""
