"""Orders of mirrors, and paths of them from one member to another one."""
