"""Efforts: where somebody is after searching in vain, and how best to search on, in exact fractions."""
