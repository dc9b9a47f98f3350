"""Straight walks through square rooms that are glued side to side."""
