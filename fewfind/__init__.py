"""Fewfind: names found by a few of their letters."""
