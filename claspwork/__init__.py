"""Claspwork: staves clasped to rows and rings, and the fewest deeds between them."""
