"""A notebook's session as one text, written in one way and read strictly."""
