"""Programs laid out: see laidout.layouts for the calls."""
