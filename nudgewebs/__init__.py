"""Nudgewebs: webs of which only the lines are known, and what pushes can do in them."""
