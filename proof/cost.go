package proof

import (
	"fingerpost/ladder"
	"fingerpost/spring"
)

// Cost is how many blocks a check takes.
func Cost(r spring.Rules, metric int) int {
	if !spring.Right(r) || metric < 0 || metric >= r.Steps {
		return 0
	}
	return QuickCost(r, metric, r.Steps) + r.Height
}

// Worst is how many blocks any check takes at most.
func Worst(r spring.Rules) int {
	return Cost(r, 0)
}

// QuickCost is how many blocks a quick check takes.
func QuickCost(r spring.Rules, from, to int) int {
	if !spring.Right(r) || from < 0 || to <= from || to > r.Steps {
		return 0
	}
	return ladder.RiseCost(r.Width) + (to-from-1)*ladder.UpCost(r.Width)
}
