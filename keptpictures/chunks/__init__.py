"""Chunks: contents in bytes, with bytes behind them that tell whether they are whole."""
