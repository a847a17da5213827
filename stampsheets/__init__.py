"""What a sheet tells of the stamps that were pressed on it."""
