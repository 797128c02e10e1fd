"""Maplost: the map of a store of many houses, drawn from signed logs that are cut and have gaps."""
