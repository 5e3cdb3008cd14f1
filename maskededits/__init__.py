"""One document, edited through levels that hide what is above them."""
