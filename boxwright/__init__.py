"""Boxwright: rows over names made into rows over few boxes."""
