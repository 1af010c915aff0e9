"""Laneswap: tables spread over lanes, and the fewest exchanges between them."""
