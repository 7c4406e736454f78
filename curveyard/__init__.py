"""Curveyard: floors numbered along folded curves, and things kept by their numbers."""
