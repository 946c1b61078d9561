"""Pagestack: a browser of small pages, from markup to painted cells, events and scripts."""
