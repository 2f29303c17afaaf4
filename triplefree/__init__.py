"""Triplefree: greedy sets without evenly spaced triples."""
