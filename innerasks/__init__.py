"""Questions within questions, answered by plans without dependence."""
