"""Who may hand packets on to whom, by comparisons alone, so that none ever comes back."""
