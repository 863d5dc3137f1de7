"""Disposehall: a house that keeps records so long and no longer."""
