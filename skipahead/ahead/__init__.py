"""Lists that are forced, the waits behind them, and runs that send them."""
