"""What the log of a program gives away."""
