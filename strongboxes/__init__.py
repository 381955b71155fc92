"""Strongboxes: boxes made of weaker boxes."""
