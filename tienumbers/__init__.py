"""Ties and places of webs numbered so that sums or steps come out all alike or all unlike."""
