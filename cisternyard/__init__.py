"""Cisternyard: tanks on a slope, rain, and what can be drawn."""
