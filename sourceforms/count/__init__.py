"""Counts of partitions and of covariants."""
