"""What two programs have in common, and what is left of a program without some of its parts."""
