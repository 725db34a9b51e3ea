"""Words over places, and machines that meet at shared letters."""
