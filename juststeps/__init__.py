"""juststeps: programs whose machine steps are told by a formula of their arguments."""
