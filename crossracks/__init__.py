"""Crossracks: a hall that joins callers to ends by three rows of racks."""
