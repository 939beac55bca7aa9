package tests

import (
	"math"
	"slices"
	"testing"

	"loop.example/deadlinescheduler/impl"
)

// workBy adds up the jobs of the synchronous pattern one by one: its entry t is the work that falls due by t.
// The offset of a task is the time from the release of a job until its work counts.
func workBy(set []impl.Task, last int, offset func(impl.Task) int) []int {
	work := make([]int, last+1)
	for _, x := range set {
		for t := offset(x); t <= last; t += x.Period {
			work[t] += x.Cost
		}
	}
	for t := 1; t <= last; t++ {
		work[t] += work[t-1]
	}
	return work
}

func dueBy(set []impl.Task) []int {
	return workBy(set, impl.Hyperperiod(set), func(x impl.Task) int { return x.Deadline })
}

// releasedBefore has as its entry w the work released in [0, w), which a release at w itself does not belong to.
func releasedBefore(set []impl.Task) []int {
	return workBy(set, impl.Hyperperiod(set), func(impl.Task) int { return 1 })
}

func firstAbove(due []int) int {
	for t, work := range due {
		if work > t {
			return t
		}
	}
	return -1
}

// fullSets has sets of implicit deadlines with utilization exactly 1, in one task up to MaxTasks.
func fullSets() [][]impl.Task {
	sets := [][]impl.Task{
		slices.Repeat([]impl.Task{task(1, 5, 5)}, 5),
		slices.Repeat([]impl.Task{task(2, 10, 10)}, 5),
		{task(8, 12, 12), task(1, 12, 12), task(1, 12, 12), task(1, 12, 12), task(1, 12, 12)},
		{task(1, 2, 2), task(1, 4, 4), task(1, 8, 8), task(1, 8, 8)},
		{task(1, 2, 2), task(1, 3, 3), task(1, 12, 12), task(1, 12, 12)},
		{task(1, 11, 11), task(8, 11, 11), task(2, 11, 11)},
	}
	var implicit []impl.Task
	for _, x := range validTasks() {
		if x.Deadline == x.Period {
			implicit = append(implicit, x)
		}
	}
	for i, x := range implicit {
		sets = append(sets, []impl.Task{x})
		for j, y := range implicit[:i+1] {
			sets = append(sets, []impl.Task{x, y})
			for _, z := range implicit[:j+1] {
				sets = append(sets, []impl.Task{x, y, z})
			}
		}
	}
	return slices.DeleteFunc(sets, func(set []impl.Task) bool {
		return impl.Utilization(set) != impl.Fraction{Num: 1, Den: 1}
	})
}

// shortened gives one task after the other of every set a shorter deadline, at its cost and one tick below its period.
func shortened(sets [][]impl.Task) [][]impl.Task {
	var all [][]impl.Task
	for _, set := range sets {
		for i, x := range set {
			for _, deadline := range []int{x.Cost, x.Period - 1} {
				if x.Cost <= deadline && deadline < x.Period {
					set := slices.Clone(set)
					set[i].Deadline = deadline
					all = append(all, set)
				}
			}
		}
	}
	return all
}

// lateOverloads has sets whose only overload within the hyperperiod is at its end.
func lateOverloads() [][]impl.Task {
	return [][]impl.Task{
		{task(1, 1, 1), task(1, 12, 12)},
		{task(8, 8, 8), task(1, 12, 12), task(1, 12, 12)},
		{task(1, 2, 2), task(2, 3, 3)},
		{task(1, 2, 2), task(6, 11, 11)},
	}
}

// lightSets has sets of three to MaxTasks tasks with low costs, which a fixed sequence picks: their utilization is mostly at most 1.
func lightSets() [][]impl.Task {
	var short []impl.Task
	for _, x := range validTasks() {
		if x.Cost <= 2 && x.Period >= 5 {
			short = append(short, x)
		}
	}
	var sets [][]impl.Task
	seed := uint32(7)
	for i := range 1500 {
		var set []impl.Task
		for range 3 + i%3 {
			seed = seed*1664525 + 1013904223
			set = append(set, short[int(seed>>8)%len(short)])
		}
		sets = append(sets, set)
	}
	return sets
}

func demandSets() [][]impl.Task {
	full := fullSets()
	return slices.Concat(sampleSets(), lightSets(), full, shortened(full), lateOverloads())
}

// fewDemandSets is for tests that visit every interval length of each set.
func fewDemandSets() [][]impl.Task {
	var few [][]impl.Task
	for i, set := range demandSets() {
		if len(set) < 2 || i%8 == 0 {
			few = append(few, set)
		}
	}
	return append(few, []impl.Task{task(7, 7, 7), task(8, 8, 8), task(8, 9, 9), task(8, 10, 10), task(8, 11, 11)})
}

func implicitSets() [][]impl.Task {
	sets := slices.Concat(fullSets(), lateOverloads())
	for _, set := range sampleSets() {
		set = slices.Clone(set)
		for i := range set {
			set[i].Deadline = set[i].Period
		}
		sets = append(sets, set)
	}
	return sets
}

func atMostOne(u impl.Fraction) bool {
	return u.Num <= u.Den
}

func TestDemandTestsSeeEveryKindOfSet(t *testing.T) {
	exactlyFull, fullOverload, late, light, lightOverload := 0, 0, 0, 0, 0
	for _, set := range demandSets() {
		full := impl.Utilization(set) == impl.Fraction{Num: 1, Den: 1}
		overload := firstAbove(dueBy(set))
		switch {
		case full && overload == -1:
			exactlyFull++
		case full:
			fullOverload++
		case overload == impl.Hyperperiod(set):
			late++
		case len(set) > 2 && overload == -1:
			light++
		case len(set) > 2 && atMostOne(impl.Utilization(set)):
			lightOverload++
		}
	}
	if exactlyFull < 100 || fullOverload < 100 || late < 4 || light < 100 || lightOverload < 100 {
		t.Fatal(exactlyFull, fullOverload, late, light, lightOverload)
	}
}

func TestP41DemandCountsTheJobsThatAreDue(t *testing.T) {
	for _, set := range fewDemandSets() {
		for length, want := range dueBy(set) {
			if got := impl.Demand(set, length); got != want {
				t.Fatalf("Demand(%v, %d) = %d, want %d", set, length, got, want)
			}
		}
	}
}

func TestP41DemandIsZeroAtZeroAndNonDecreasing(t *testing.T) {
	for _, set := range fewDemandSets() {
		before := impl.Demand(set, 0)
		if before != 0 {
			t.Fatalf("Demand(%v, 0) = %d", set, before)
		}
		for length := 1; length <= impl.Hyperperiod(set); length++ {
			now := impl.Demand(set, length)
			if now < before {
				t.Fatalf("Demand(%v, %d) = %d after %d", set, length, now, before)
			}
			before = now
		}
	}
}

func TestP41DemandIsTheSumOfTheTasks(t *testing.T) {
	for _, set := range demandSets() {
		// Beyond its own period the demand bound of a single task is not defined.
		shortest := impl.MaxPeriod
		for _, x := range set {
			shortest = min(shortest, x.Period)
		}
		for length := 0; length <= min(shortest, impl.Hyperperiod(set)); length++ {
			sum := 0
			for _, x := range set {
				sum += impl.Demand([]impl.Task{x}, length)
			}
			if got := impl.Demand(set, length); got != sum {
				t.Fatalf("Demand(%v, %d) = %d, the tasks have %d", set, length, got, sum)
			}
		}
	}
}

func TestP41DemandExamples(t *testing.T) {
	long := []impl.Task{task(7, 7, 7), task(8, 8, 8), task(8, 9, 9), task(8, 10, 10), task(8, 11, 11)}
	for _, c := range []struct {
		set    []impl.Task
		length int
		want   int
	}{
		{nil, 0, 0},
		{nil, 1, 0},
		{[]impl.Task{}, 1, 0},
		{[]impl.Task{task(2, 4, 4), task(3, 6, 6)}, 5, 2},
		{[]impl.Task{task(2, 4, 4), task(3, 6, 6)}, 6, 5},
		{[]impl.Task{task(2, 4, 4), task(3, 6, 6)}, 11, 7},
		{[]impl.Task{task(2, 4, 4), task(3, 6, 6)}, 12, 12},
		{[]impl.Task{task(8, 8, 12)}, 7, 0},
		{[]impl.Task{task(8, 8, 12)}, 8, 8},
		{[]impl.Task{task(8, 8, 12)}, 12, 8},
		{slices.Repeat([]impl.Task{task(8, 12, 12)}, 5), 11, 0},
		{slices.Repeat([]impl.Task{task(8, 12, 12)}, 5), 12, 40},
		{long, 27720, 27720 + 27720 + 24640 + 22176 + 20160},
	} {
		if got := impl.Demand(c.set, c.length); got != c.want {
			t.Fatalf("Demand(%v, %d) = %d, want %d", c.set, c.length, got, c.want)
		}
	}
}

func TestP41DemandOutsideTheHyperperiod(t *testing.T) {
	for _, set := range demandSets() {
		h := impl.Hyperperiod(set)
		for _, length := range []int{-1, -2, -h, math.MinInt, h + 1, h + 12, 2*h + 1, math.MaxInt} {
			if got := impl.Demand(set, length); got != -1 {
				t.Fatalf("Demand(%v, %d) = %d", set, length, got)
			}
		}
	}
}

func TestP41DemandOfInvalidSets(t *testing.T) {
	for _, set := range invalidSets() {
		for _, length := range []int{math.MinInt, -1, 0, 1, 3, 12, 27720, math.MaxInt} {
			if got := impl.Demand(set, length); got != -1 {
				t.Fatalf("Demand(%v, %d) = %d", set, length, got)
			}
		}
	}
}

func TestP42DemandAtTheHyperperiodIsTheUtilization(t *testing.T) {
	for _, set := range demandSets() {
		u, h := impl.Utilization(set), impl.Hyperperiod(set)
		if got := impl.Demand(set, h); got*u.Den != u.Num*h {
			t.Fatalf("Demand(%v, %d) = %d with utilization %v", set, h, got, u)
		}
	}
}

func TestP42UtilizationAboveOneIsOverloaded(t *testing.T) {
	for _, set := range demandSets() {
		if atMostOne(impl.Utilization(set)) {
			continue
		}
		if first := impl.FirstOverload(set); first < 1 || first > impl.Hyperperiod(set) {
			t.Fatalf("FirstOverload(%v) = %d", set, first)
		}
	}
}

func TestP43FirstOverloadIsTheFirstViolatedInterval(t *testing.T) {
	for _, set := range demandSets() {
		first := impl.FirstOverload(set)
		if want := firstAbove(dueBy(set)); first != want {
			t.Fatalf("FirstOverload(%v) = %d, want %d", set, first, want)
		}
		if first == -1 {
			continue
		}
		if impl.Demand(set, first) <= first {
			t.Fatalf("FirstOverload(%v) = %d with demand %d", set, first, impl.Demand(set, first))
		}
		isDeadline := func(x impl.Task) bool { return first >= x.Deadline && (first-x.Deadline)%x.Period == 0 }
		if !slices.ContainsFunc(set, isDeadline) {
			t.Fatalf("FirstOverload(%v) = %d is no deadline", set, first)
		}
	}
}

func TestP43FirstOverloadExamples(t *testing.T) {
	for _, c := range []struct {
		set  []impl.Task
		want int
	}{
		{nil, -1},
		{[]impl.Task{}, -1},
		{[]impl.Task{task(8, 8, 8)}, -1},
		{[]impl.Task{task(2, 4, 4), task(3, 6, 6)}, -1},
		{[]impl.Task{task(2, 4, 4), task(3, 4, 6)}, 4},
		{[]impl.Task{task(1, 1, 12), task(1, 1, 12)}, 1},
		{[]impl.Task{task(1, 1, 1), task(1, 12, 12)}, 12},
		{slices.Repeat([]impl.Task{task(1, 1, 1)}, 5), 1},
		{slices.Repeat([]impl.Task{task(8, 12, 12)}, 5), 12},
	} {
		if got := impl.FirstOverload(c.set); got != c.want {
			t.Fatalf("FirstOverload(%v) = %d, want %d", c.set, got, c.want)
		}
	}
}

func TestP43InvalidSetsHaveNoOverload(t *testing.T) {
	for _, set := range invalidSets() {
		if got := impl.FirstOverload(set); got != -1 {
			t.Fatalf("FirstOverload(%v) = %d", set, got)
		}
	}
}

func TestP44FeasibleIsWithoutOverload(t *testing.T) {
	for _, set := range demandSets() {
		want := firstAbove(dueBy(set)) == -1
		if got := impl.EdfFeasible(set); got != want || got != (impl.FirstOverload(set) == -1) {
			t.Fatalf("EdfFeasible(%v) = %v, FirstOverload %d", set, got, impl.FirstOverload(set))
		}
	}
}

func TestP44EasierSetsStayFeasible(t *testing.T) {
	for _, set := range demandSets() {
		if !impl.EdfFeasible(set) {
			continue
		}
		var easier [][]impl.Task
		for i, x := range set {
			easier = append(easier, without(set, i))
			for cost := 1; cost < x.Cost; cost++ {
				cheaper := slices.Clone(set)
				cheaper[i].Cost = cost
				easier = append(easier, cheaper)
			}
			for deadline := x.Deadline + 1; deadline <= x.Period; deadline++ {
				relaxed := slices.Clone(set)
				relaxed[i].Deadline = deadline
				easier = append(easier, relaxed)
			}
		}
		for _, other := range easier {
			if !impl.EdfFeasible(other) {
				t.Fatalf("%v is feasible, but %v is not", set, other)
			}
		}
	}
}

func TestP44InvalidSetsAreNotFeasible(t *testing.T) {
	for _, set := range invalidSets() {
		if impl.EdfFeasible(set) {
			t.Fatalf("EdfFeasible(%v) = true", set)
		}
	}
	if !impl.EdfFeasible(nil) || !impl.EdfFeasible([]impl.Task{}) {
		t.Fatal("the empty set is not feasible")
	}
}

func TestP45ImplicitDeadlinesNeedOnlyUtilization(t *testing.T) {
	for _, set := range implicitSets() {
		u := impl.Utilization(set)
		if got := impl.EdfFeasible(set); got != atMostOne(u) {
			t.Fatalf("EdfFeasible(%v) = %v with utilization %v", set, got, u)
		}
	}
}

func TestP45FeasibleSetsHaveUtilizationAtMostOne(t *testing.T) {
	for _, set := range demandSets() {
		if impl.EdfFeasible(set) && !atMostOne(impl.Utilization(set)) {
			t.Fatalf("%v is feasible with utilization %v", set, impl.Utilization(set))
		}
	}
}

func TestP46BusyPeriodIsTheSmallestFixedPoint(t *testing.T) {
	for _, set := range demandSets() {
		got := impl.BusyPeriod(set)
		if len(set) == 0 || !atMostOne(impl.Utilization(set)) {
			if got != -1 {
				t.Fatalf("BusyPeriod(%v) = %d", set, got)
			}
			continue
		}
		released := releasedBefore(set)
		if got < 1 || got >= len(released) || released[got] != got {
			t.Fatalf("BusyPeriod(%v) = %d", set, got)
		}
		for w := 1; w < got; w++ {
			if released[w] <= w {
				t.Fatalf("BusyPeriod(%v) = %d, but only %d is released before %d", set, got, released[w], w)
			}
		}
	}
}

func TestP46BusyPeriodExamples(t *testing.T) {
	for _, c := range []struct {
		set  []impl.Task
		want int
	}{
		{nil, -1},
		{[]impl.Task{}, -1},
		{[]impl.Task{task(1, 1, 1)}, 1},
		{[]impl.Task{task(1, 12, 12)}, 1},
		{[]impl.Task{task(8, 12, 12)}, 8},
		{[]impl.Task{task(8, 8, 8)}, 8},
		{[]impl.Task{task(2, 4, 4), task(3, 6, 6)}, 12},
		{[]impl.Task{task(2, 4, 4), task(2, 6, 6)}, 4},
		{[]impl.Task{task(2, 2, 4), task(3, 3, 6)}, 12},
		{[]impl.Task{task(2, 4, 4), task(4, 4, 6)}, -1},
		{[]impl.Task{task(1, 1, 1), task(1, 12, 12)}, -1},
		{slices.Repeat([]impl.Task{task(1, 5, 5)}, 5), 5},
		{slices.Repeat([]impl.Task{task(8, 12, 12)}, 5), -1},
		{[]impl.Task{task(8, 12, 12), task(4, 12, 12)}, 12},
	} {
		if got := impl.BusyPeriod(c.set); got != c.want {
			t.Fatalf("BusyPeriod(%v) = %d, want %d", c.set, got, c.want)
		}
	}
}

func TestP46InvalidSetsHaveNoBusyPeriod(t *testing.T) {
	for _, set := range invalidSets() {
		if got := impl.BusyPeriod(set); got != -1 {
			t.Fatalf("BusyPeriod(%v) = %d", set, got)
		}
	}
}

func TestP47OverloadsBeginInTheBusyPeriod(t *testing.T) {
	overloads := 0
	for _, set := range demandSets() {
		first := impl.FirstOverload(set)
		if first == -1 || !atMostOne(impl.Utilization(set)) {
			continue
		}
		overloads++
		if busy := impl.BusyPeriod(set); first > busy {
			t.Fatalf("%v: first overload %d, busy period %d", set, first, busy)
		}
	}
	if overloads < 100 {
		t.Fatal(overloads)
	}
}

func TestP113ImplicitDemandAddsUp(t *testing.T) {
	for _, set := range implicitSets() {
		h := impl.Hyperperiod(set)
		// A set with a longer hyperperiod has too many pairs of lengths.
		if h > 400 {
			continue
		}
		var demand []int
		for length := range h + 1 {
			demand = append(demand, impl.Demand(set, length))
		}
		for a := range h + 1 {
			for b := range h - a + 1 {
				if demand[a+b] < demand[a]+demand[b] {
					t.Fatalf("%v: the demand of %d is less than that of %d and %d", set, a+b, a, b)
				}
			}
		}
	}
}

func TestDemandFunctionsDoNotWriteToArguments(t *testing.T) {
	for _, set := range append(sampleSets(), invalidSets()...) {
		// Spare capacity belongs to the caller, too.
		memory := append(slices.Clone(set), task(4, 5, 6), task(-1, -2, -3))
		before := slices.Clone(memory)
		argument := memory[:len(set)]
		impl.Demand(argument, 3)
		impl.FirstOverload(argument)
		impl.EdfFeasible(argument)
		impl.BusyPeriod(argument)
		if !slices.Equal(memory, before) {
			t.Fatalf("%v became %v", before, memory)
		}
	}
}
