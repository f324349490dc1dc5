"""Latecomers: when is a late listener level with the others."""
