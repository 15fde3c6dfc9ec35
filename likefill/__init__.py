"""Terms made alike by filling their wishes, where some signs let their parts stand in any order."""
