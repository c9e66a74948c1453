"""Sumorder: sums over many names of products of parts."""
