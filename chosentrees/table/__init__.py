"""Tables, resolutions and levels."""
