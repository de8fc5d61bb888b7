"""Bentwires: drawings on wires that tell what can stand at once."""
