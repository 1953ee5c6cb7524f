"""Full queue: sequences of steps on queues of limited capacity."""
