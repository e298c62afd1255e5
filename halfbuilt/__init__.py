"""Object graphs built step by step, with nothing used before it is finished."""
