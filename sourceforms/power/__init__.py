"""What kills forms, and sums of powers."""
