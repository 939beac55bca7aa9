package impl

// MaxTasks is the maximum number of tasks in a task set; MaxCost the maximum worst-case execution time; MaxPeriod the maximum period.
const (
	MaxTasks  = 5
	MaxCost   = 8
	MaxPeriod = 12
)

// Task is a sporadic task: its worst-case execution time, its relative deadline, and the minimum time between two releases.
type Task struct {
	Cost     int
	Deadline int
	Period   int
}

// Fraction is a non-negative rational number in lowest terms.
type Fraction struct {
	Num int
	Den int
}

// TaskValid reports whether t is a valid task with a constrained deadline: 1 <= Cost <= MaxCost and Cost <= Deadline <= Period <= MaxPeriod.
func TaskValid(t Task) bool {
	return t.valid()
}

// SetValid reports whether set has at most MaxTasks tasks, all of them valid.
func SetValid(set []Task) bool {
	return allValid(set, MaxTasks)
}

// Hyperperiod returns the least common multiple of all periods of a valid task set, 1 if it is empty, and 0 if it is invalid.
func Hyperperiod(set []Task) int {
	if !SetValid(set) {
		return 0
	}
	multiple := 1
	for _, t := range set {
		multiple = leastCommonMultiple(multiple, t.Period)
	}
	return multiple
}

// Utilization returns the sum of Cost/Period over a valid task set in lowest terms, 0/1 if it is empty, and the zero value if it is invalid.
func Utilization(set []Task) Fraction {
	if !SetValid(set) {
		return Fraction{}
	}
	sum := Fraction{Num: 0, Den: 1}
	for _, t := range set {
		sum = sum.plus(t.utilization())
	}
	return sum
}

// checked is implemented by the values whose validity does not depend on their neighbours in a slice.
type checked interface {
	valid() bool
}

func allValid[T checked](list []T, most int) bool {
	// The length goes first, so that a huge invalid slice is not scanned.
	if len(list) > most {
		return false
	}
	for _, x := range list {
		if !x.valid() {
			return false
		}
	}
	return true
}

func (t Task) valid() bool {
	return 1 <= t.Cost && t.Cost <= MaxCost && t.Cost <= t.Deadline && t.Deadline <= t.Period && t.Period <= MaxPeriod
}

func (t Task) utilization() Fraction {
	return Fraction{Num: t.Cost, Den: t.Period}.reduced()
}

// plus keeps the sum in lowest terms, so that the terms stay small however many fractions are added.
func (f Fraction) plus(g Fraction) Fraction {
	return Fraction{Num: f.Num*g.Den + g.Num*f.Den, Den: f.Den * g.Den}.reduced()
}

func (f Fraction) reduced() Fraction {
	d := greatestCommonDivisor(f.Num, f.Den)
	return Fraction{Num: f.Num / d, Den: f.Den / d}
}

// greatestCommonDivisor expects a >= 0 and b > 0; its result is then positive, so that callers may divide by it.
func greatestCommonDivisor(a, b int) int {
	for b != 0 {
		a, b = b, a%b
	}
	return a
}

func leastCommonMultiple(a, b int) int {
	return a / greatestCommonDivisor(a, b) * b
}
