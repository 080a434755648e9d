"""Offseat: guests who each shun a seat or none, and the ways to seat them."""
