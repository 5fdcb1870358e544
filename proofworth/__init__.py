"""What each item of a proof is worth: proofs by detachment, and what falls without an item."""
