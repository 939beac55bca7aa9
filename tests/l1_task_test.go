package tests

import (
	"math"
	"slices"
	"testing"

	"loop.example/deadlinescheduler/impl"
)

// multipleOfAllPeriods is the least common multiple of 1..MaxPeriod: every Cost/Period is a whole number of its parts.
const multipleOfAllPeriods = 27720

func task(cost, deadline, period int) impl.Task {
	return impl.Task{Cost: cost, Deadline: deadline, Period: period}
}

// validTasks lists every task that the document allows, built from the bounds and not with TaskValid.
func validTasks() []impl.Task {
	var list []impl.Task
	for period := 1; period <= 12; period++ {
		for deadline := 1; deadline <= period; deadline++ {
			for cost := 1; cost <= deadline && cost <= 8; cost++ {
				list = append(list, task(cost, deadline, period))
			}
		}
	}
	return list
}

func invalidTasks() []impl.Task {
	return []impl.Task{
		{},
		task(0, 1, 1),
		task(0, 12, 12),
		task(-1, 4, 4),
		task(1, 0, 4),
		task(1, -1, 4),
		task(1, 1, 0),
		task(1, 1, -1),
		task(-3, -2, -1),
		task(3, 2, 4),
		task(1, 5, 4),
		task(9, 9, 9),
		task(9, 12, 12),
		task(1, 1, 13),
		task(1, 13, 13),
		task(8, 13, 12),
		task(math.MinInt, 4, 4),
		task(1, math.MinInt, 4),
		task(1, 1, math.MinInt),
		task(math.MaxInt, math.MaxInt, math.MaxInt),
		task(1, 1, math.MaxInt),
		task(1, math.MaxInt, math.MaxInt),
		task(math.MinInt, math.MinInt, math.MinInt),
	}
}

// sampleSets has the empty set, every set of one task, the extreme sets, and sets of two to MaxTasks tasks that a fixed sequence picks.
func sampleSets() [][]impl.Task {
	tasks := validTasks()
	sets := [][]impl.Task{nil, {}}
	for _, t := range tasks {
		sets = append(sets, []impl.Task{t})
	}
	sets = append(sets,
		slices.Repeat([]impl.Task{task(8, 12, 12)}, 5),
		slices.Repeat([]impl.Task{task(8, 8, 8)}, 5),
		slices.Repeat([]impl.Task{task(1, 1, 1)}, 5),
		[]impl.Task{task(7, 7, 7), task(8, 8, 8), task(8, 9, 9), task(8, 10, 10), task(8, 11, 11)},
		[]impl.Task{task(1, 8, 8), task(1, 9, 9), task(1, 10, 10), task(1, 11, 11), task(1, 12, 12)},
	)
	seed := uint32(1)
	for i := range 4000 {
		var set []impl.Task
		for range 2 + i%4 {
			seed = seed*1664525 + 1013904223
			set = append(set, tasks[int(seed>>8)%len(tasks)])
		}
		sets = append(sets, set)
	}
	return sets
}

// periodSets has every multiset of at most MaxTasks periods, as sets of short tasks.
func periodSets() [][]impl.Task {
	sets := [][]impl.Task{nil}
	for start := 0; len(sets[start]) < 5; start++ {
		set := sets[start]
		first := 1
		if len(set) > 0 {
			first = set[len(set)-1].Period
		}
		for period := first; period <= 12; period++ {
			sets = append(sets, append(slices.Clone(set), task(1, 1, period)))
		}
	}
	return sets
}

func without(set []impl.Task, i int) []impl.Task {
	return slices.Delete(slices.Clone(set), i, i+1)
}

func isMultiple(h int, set []impl.Task) bool {
	for _, t := range set {
		if h%t.Period != 0 {
			return false
		}
	}
	return true
}

func commonFactor(a, b int) int {
	for d := min(a, b); d > 1; d-- {
		if a%d == 0 && b%d == 0 {
			return d
		}
	}
	return 1
}

// invalidSets puts every invalid task at every place of sets of every size, and adds sets that are too long.
func invalidSets() [][]impl.Task {
	var sets [][]impl.Task
	for _, bad := range invalidTasks() {
		for n := 1; n <= 5; n++ {
			for i := range n {
				set := slices.Repeat([]impl.Task{task(1, 2, 3)}, n)
				set[i] = bad
				sets = append(sets, set)
			}
		}
	}
	for _, n := range []int{6, 7, 100} {
		sets = append(sets, slices.Repeat([]impl.Task{task(1, 12, 12)}, n), make([]impl.Task, n))
	}
	return sets
}

func TestLimits(t *testing.T) {
	if impl.MaxTasks != 5 || impl.MaxCost != 8 || impl.MaxPeriod != 12 {
		t.Fatal(impl.MaxTasks, impl.MaxCost, impl.MaxPeriod)
	}
}

func TestP37TaskParametersAreOrdered(t *testing.T) {
	valid := validTasks()
	for cost := -2; cost <= 15; cost++ {
		for deadline := -2; deadline <= 15; deadline++ {
			for period := -2; period <= 15; period++ {
				x := task(cost, deadline, period)
				if got, want := impl.TaskValid(x), slices.Contains(valid, x); got != want {
					t.Fatalf("TaskValid(%v) = %v", x, got)
				}
			}
		}
	}
	for _, x := range invalidTasks() {
		if impl.TaskValid(x) {
			t.Fatalf("TaskValid(%v) = true", x)
		}
	}
}

func TestP37ExtendingThePeriodKeepsATaskValid(t *testing.T) {
	for _, x := range validTasks() {
		for period := x.Period; period <= 12; period++ {
			if !impl.TaskValid(task(x.Cost, x.Deadline, period)) {
				t.Fatalf("%v with period %d is invalid", x, period)
			}
		}
		if impl.TaskValid(task(x.Cost, x.Deadline, 13)) {
			t.Fatalf("%v with period 13 is valid", x)
		}
		if impl.TaskValid(task(x.Cost, x.Period+1, x.Period)) {
			t.Fatalf("%v with a deadline beyond the period is valid", x)
		}
		if impl.TaskValid(task(x.Deadline+1, x.Deadline, x.Period)) {
			t.Fatalf("%v with a cost beyond the deadline is valid", x)
		}
	}
}

func TestP37ExtremesAreValid(t *testing.T) {
	for _, x := range []impl.Task{task(1, 1, 1), task(8, 8, 8), task(8, 8, 12), task(8, 12, 12), task(1, 12, 12)} {
		if !impl.TaskValid(x) {
			t.Fatalf("TaskValid(%v) = false", x)
		}
	}
}

func TestP38ValidSetsAndTheirSubsets(t *testing.T) {
	for _, set := range sampleSets() {
		if !impl.SetValid(set) {
			t.Fatalf("SetValid(%v) = false", set)
		}
		for i := range set {
			if !impl.SetValid(without(set, i)) {
				t.Fatalf("%v without task %d is invalid", set, i)
			}
		}
	}
}

func TestP38OneInvalidTaskMakesASetInvalid(t *testing.T) {
	for _, set := range invalidSets() {
		if impl.SetValid(set) {
			t.Fatalf("SetValid(%v) = true", set)
		}
	}
}

func TestP38AtMostMaxTasks(t *testing.T) {
	set := slices.Repeat([]impl.Task{task(8, 12, 12)}, 6)
	for n := range 6 {
		if !impl.SetValid(set[:n]) {
			t.Fatalf("%d tasks are invalid", n)
		}
	}
	if impl.SetValid(set) {
		t.Fatal("6 tasks are valid")
	}
}

func TestP39HyperperiodIsACommonMultiple(t *testing.T) {
	for _, set := range append(periodSets(), sampleSets()...) {
		h := impl.Hyperperiod(set)
		if h <= 0 || !isMultiple(h, set) {
			t.Fatalf("Hyperperiod(%v) = %d", set, h)
		}
		// A smaller common multiple would divide h, and so h divided by some prime would be one, too.
		for p := 2; p <= h; p++ {
			if h%p == 0 && isMultiple(h/p, set) {
				t.Fatalf("Hyperperiod(%v) = %d, but %d is a common multiple", set, h, h/p)
			}
		}
	}
}

func TestP39NoSmallerNumberIsACommonMultiple(t *testing.T) {
	for _, set := range periodSets() {
		if len(set) > 3 {
			break
		}
		want := 1
		for !isMultiple(want, set) {
			want++
		}
		if h := impl.Hyperperiod(set); h != want {
			t.Fatalf("Hyperperiod(%v) = %d, want %d", set, h, want)
		}
	}
}

func TestP39HyperperiodExamples(t *testing.T) {
	for _, c := range []struct {
		periods []int
		want    int
	}{
		{nil, 1},
		{[]int{1}, 1},
		{[]int{12}, 12},
		{[]int{4, 6}, 12},
		{[]int{6, 4}, 12},
		{[]int{12, 12, 12, 12, 12}, 12},
		{[]int{7, 8, 9, 10, 11}, 27720},
		{[]int{8, 9, 10, 11, 12}, 3960},
		{[]int{2, 4, 8, 1, 12}, 24},
	} {
		var set []impl.Task
		for _, period := range c.periods {
			set = append(set, task(1, period, period))
		}
		if h := impl.Hyperperiod(set); h != c.want {
			t.Fatalf("Hyperperiod with periods %v = %d, want %d", c.periods, h, c.want)
		}
	}
}

func TestP39InvalidSetsHaveHyperperiodZero(t *testing.T) {
	for _, set := range invalidSets() {
		if h := impl.Hyperperiod(set); h != 0 {
			t.Fatalf("Hyperperiod(%v) = %d", set, h)
		}
	}
}

func TestP40UtilizationIsTheDemandOfOneHyperperiod(t *testing.T) {
	for _, set := range sampleSets() {
		u, h := impl.Utilization(set), impl.Hyperperiod(set)
		if u.Den < 1 || u.Num < 0 || commonFactor(u.Num, u.Den) != 1 {
			t.Fatalf("Utilization(%v) = %v", set, u)
		}
		demand, parts := 0, 0
		for _, x := range set {
			demand += h / x.Period * x.Cost
			parts += multipleOfAllPeriods / x.Period * x.Cost
		}
		if u.Num*h != demand*u.Den || u.Num*multipleOfAllPeriods != parts*u.Den {
			t.Fatalf("Utilization(%v) = %v", set, u)
		}
	}
}

func TestP40AddingATaskRaisesUtilization(t *testing.T) {
	for _, set := range sampleSets() {
		u := impl.Utilization(set)
		for i := range set {
			v := impl.Utilization(without(set, i))
			if v.Num*u.Den >= u.Num*v.Den {
				t.Fatalf("Utilization(%v) = %v, without task %d %v", set, u, i, v)
			}
		}
	}
}

func TestP40UtilizationExamples(t *testing.T) {
	for _, c := range []struct {
		set  []impl.Task
		want impl.Fraction
	}{
		{nil, impl.Fraction{Num: 0, Den: 1}},
		{[]impl.Task{}, impl.Fraction{Num: 0, Den: 1}},
		{[]impl.Task{task(2, 4, 4)}, impl.Fraction{Num: 1, Den: 2}},
		{[]impl.Task{task(2, 4, 4), task(3, 6, 6)}, impl.Fraction{Num: 1, Den: 1}},
		{[]impl.Task{task(2, 3, 4), task(3, 4, 6)}, impl.Fraction{Num: 1, Den: 1}},
		{[]impl.Task{task(8, 12, 12)}, impl.Fraction{Num: 2, Den: 3}},
		{slices.Repeat([]impl.Task{task(8, 12, 12)}, 5), impl.Fraction{Num: 10, Den: 3}},
		{slices.Repeat([]impl.Task{task(1, 1, 1)}, 5), impl.Fraction{Num: 5, Den: 1}},
		{[]impl.Task{task(1, 7, 7), task(1, 8, 8), task(1, 9, 9), task(1, 10, 10), task(1, 11, 11)}, impl.Fraction{Num: 15797, Den: 27720}},
	} {
		if u := impl.Utilization(c.set); u != c.want {
			t.Fatalf("Utilization(%v) = %v, want %v", c.set, u, c.want)
		}
	}
}

func TestP40InvalidSetsHaveNoUtilization(t *testing.T) {
	for _, set := range invalidSets() {
		if u := impl.Utilization(set); u != (impl.Fraction{}) {
			t.Fatalf("Utilization(%v) = %v", set, u)
		}
	}
}

func TestP112HyperperiodOfASubsetDivides(t *testing.T) {
	for _, set := range append(periodSets(), sampleSets()...) {
		h := impl.Hyperperiod(set)
		for i := range set {
			rest := impl.Hyperperiod(without(set, i))
			if rest < 1 || h < 1 || h%rest != 0 {
				t.Fatalf("Hyperperiod(%v) = %d, without task %d %d", set, h, i, rest)
			}
		}
	}
}

func TestTaskFunctionsDoNotWriteToArguments(t *testing.T) {
	for _, set := range append(sampleSets(), invalidSets()...) {
		// Spare capacity belongs to the caller, too.
		memory := append(slices.Clone(set), task(4, 5, 6), task(-1, -2, -3))
		before := slices.Clone(memory)
		argument := memory[:len(set)]
		impl.SetValid(argument)
		impl.Hyperperiod(argument)
		impl.Utilization(argument)
		if !slices.Equal(memory, before) {
			t.Fatalf("%v became %v", before, memory)
		}
	}
}
