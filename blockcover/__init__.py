"""Yes-no tables covered by the fewest full blocks."""
