"""How a grid kept by laced bits is read."""
