"""Deltamill: a dataflow over counted rows that keeps its answers."""
