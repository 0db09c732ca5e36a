"""What all other parts of the package rest on."""
