"""Talkcourt: a saying at a table, one who says it, one who doubts."""
