"""Programs that draw, choose and are told what was seen, and when two of them are alike."""
