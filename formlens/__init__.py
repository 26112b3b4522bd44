"""Formlens: one record shown in many forms."""
