"""Treeandtrip: how many crates are never too few."""
