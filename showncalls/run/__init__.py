"""What moves do, and runs."""
