"""Wavespots: which moments settle all signals of told waves."""
