"""Points on a plane, and the lines through them."""
