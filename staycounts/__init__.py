"""Staycounts: what counts of arrivals and departures tell about stays."""
