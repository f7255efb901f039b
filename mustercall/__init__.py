"""Letters to a group whose members come, go, crash and are parted."""
