"""Headers before streams, and checksums after them."""
