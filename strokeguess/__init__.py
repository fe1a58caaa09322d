"""Strokeguess: fingers' strokes on nested parts, read as taps, presses, pulls, spreads and turns."""
