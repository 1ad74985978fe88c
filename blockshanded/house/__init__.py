"""Programs that change and keep promises."""
