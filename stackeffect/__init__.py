"""Stack effects: what a sequence of pushes and pops does to every stack."""
