"""Washedarms: arms that share tools which must be washed."""
