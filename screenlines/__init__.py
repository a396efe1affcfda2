"""Screenlines: lines of a screen written over."""
