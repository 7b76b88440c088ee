"""Systems of covariants: all that the covariants of a degree are made of."""
