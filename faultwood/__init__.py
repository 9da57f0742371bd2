"""Works of parts that fail by told odds, and the cheapest way to make them hold."""
