"""Momentloom: happenings in their order, run four ways, and replayed."""
