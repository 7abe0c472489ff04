"""Two players pick items by turns; the game is read from its end."""
