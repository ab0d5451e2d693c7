"""Mustoccur: patterns that every long text must contain."""
