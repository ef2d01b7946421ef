"""Bothroads: one thing kept at two ends, and what letters on slow roads must tell."""
