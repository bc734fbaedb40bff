package clock

import "weirkeep/api"

const (
	whole  = 100     // hundredths
	maxNum = 1000    // hundredths of drift
	maxWay = 1 << 20 // ticks of slack, and of one clock in one row
)

// drift is how far a clock may be ahead of another one: num hundredths of the other one's way, and slack ticks.
type drift struct{ num, slack int }

func driftOf(num, slack int) drift {
	return drift{num: within(num, 0, maxNum), slack: within(slack, 0, maxWay)}
}

// outruns tells whether a clock with the way a outruns one with the way b.
func (d drift) outruns(a, b int) bool { return whole*a > (whole+d.num)*b+whole*d.slack }

// Margin tells how long a client may use a lease by its own clock.
func Margin(lease, num, slack int) int {
	d := driftOf(num, slack)
	left := max(within(lease, 0, api.MaxTime)-d.slack, 0)
	return whole * left / (whole + d.num)
}
