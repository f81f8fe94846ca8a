"""Factors of lots of classes."""
