"""A notebook's graph: who makes what, who may run, in which order."""
