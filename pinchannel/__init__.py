"""A channel of tracks between two rows of pins. The way in is pinchannel.desk.answers."""
