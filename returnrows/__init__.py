"""Returnrows: endless rows by the words by which they come back."""
