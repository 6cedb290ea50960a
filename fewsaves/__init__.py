"""Fewsaves: boxes saved where they are needed least often."""
