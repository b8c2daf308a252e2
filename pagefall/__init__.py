"""Pagefall: a page at all widths, and what a change sets anew."""
