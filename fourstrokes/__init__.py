"""Fourstrokes: boxes led from one picture to another, nothing ever lying upon anything."""
