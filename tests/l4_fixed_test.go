package tests

import (
	"cmp"
	"math"
	"slices"
	"testing"

	"loop.example/deadlinescheduler/impl"
)

// allOrders lists every permutation of 0..n-1.
func allOrders(n int) [][]int {
	orders := [][]int{{}}
	for i := range n {
		var longer [][]int
		for _, order := range orders {
			for place := range i + 1 {
				longer = append(longer, slices.Insert(slices.Clone(order), place, i))
			}
		}
		orders = longer
	}
	return orders
}

func ascending(n int) []int {
	var order []int
	for i := range n {
		order = append(order, i)
	}
	return order
}

func reversed(order []int) []int {
	other := slices.Clone(order)
	slices.Reverse(other)
	return other
}

// someOrders is for tests that simulate: the order of the indices, its reverse, and three that the seed picks.
func someOrders(n int, seed int) [][]int {
	all := allOrders(n)
	s := &sequence{state: uint32(seed)}
	orders := [][]int{ascending(n), reversed(ascending(n))}
	for range 3 {
		orders = append(orders, all[s.below(len(all))])
	}
	return orders
}

// load adds up the cost of the task at a place and, one by one, the jobs of all tasks above it that are released within the interval.
func load(set []impl.Task, order []int, place, length int) int {
	sum := set[order[place]].Cost
	for _, i := range order[:place] {
		for release := 0; release < length; release += set[i].Period {
			sum += set[i].Cost
		}
	}
	return sum
}

// responsesByScan tries every length up to the deadline.
func responsesByScan(set []impl.Task, order []int) []int {
	times := make([]int, len(set))
	for place, i := range order {
		length := 1
		for length <= set[i].Deadline && load(set, order, place, length) != length {
			length++
		}
		times[i] = length
		if length > set[i].Deadline {
			times[i] = -1
		}
	}
	return times
}

func meetsAll(set []impl.Task, order []int) bool {
	return !slices.Contains(responsesByScan(set, order), -1)
}

func feasibleOrders(set []impl.Task) [][]int {
	return slices.DeleteFunc(allOrders(len(set)), func(order []int) bool { return !meetsAll(set, order) })
}

func fixedByScan(order []int, jobs []impl.Job) impl.Schedule {
	return runByScan(jobs, func(a, b impl.Job) bool {
		return slices.Index(order, a.TaskID) < slices.Index(order, b.TaskID)
	})
}

// tightSets gives every task its response time, in the order of the indices, as its deadline.
func tightSets() [][]impl.Task {
	var sets [][]impl.Task
	for _, set := range slices.Concat(lightSets(), fullSets()) {
		set = slices.Clone(set)
		for i := range set {
			set[i].Deadline = set[i].Period
		}
		times := responsesByScan(set, ascending(len(set)))
		if slices.Contains(times, -1) {
			continue
		}
		for i, r := range times {
			set[i].Deadline = r
		}
		sets = append(sets, set)
	}
	return sets
}

// tooTightSets lowers one of the deadlines of a tight set by one tick.
func tooTightSets() [][]impl.Task {
	var sets [][]impl.Task
	for _, set := range tightSets() {
		for i, x := range set {
			if x.Deadline > x.Cost {
				set := slices.Clone(set)
				set[i].Deadline--
				sets = append(sets, set)
			}
		}
	}
	return sets
}

// overloadsAtTheEnd has sets whose first overload is exactly at MaxTime.
func overloadsAtTheEnd() [][]impl.Task {
	return [][]impl.Task{
		{task(8, 10, 10), task(1, 3, 9), task(1, 10, 11)},
		{task(1, 8, 11), task(5, 10, 10), task(1, 6, 12), task(4, 12, 12)},
		{task(3, 9, 10), task(2, 8, 8), task(5, 10, 11)},
		{task(4, 10, 10), task(4, 8, 8), task(1, 9, 9)},
		{task(1, 7, 11), task(1, 10, 12), task(2, 6, 6), task(5, 10, 10)},
		{task(1, 12, 12), task(1, 7, 8), task(4, 5, 5)},
		{task(6, 12, 12), task(1, 10, 11), task(5, 8, 12)},
	}
}

// fixedSets has the empty set, single tasks and sets of every kind, among them those with equal, tight and too tight deadlines.
func fixedSets() [][]impl.Task {
	sets := overloadsAtTheEnd()
	for i, set := range slices.Concat(demandSets(), tightSets(), tooTightSets()) {
		if len(set) < 2 || i%4 == 0 {
			sets = append(sets, set)
		}
	}
	return append(sets,
		slices.Repeat([]impl.Task{task(1, 5, 5)}, 5),
		slices.Repeat([]impl.Task{task(2, 10, 12)}, 5),
		slices.Repeat([]impl.Task{task(2, 9, 12)}, 5),
		[]impl.Task{task(1, 12, 12), task(1, 6, 12), task(1, 12, 12), task(1, 6, 12), task(1, 3, 12)},
	)
}

// fixedWorkloads leaves out some of the workloads and adds patterns of sets that are feasible by fixed priorities.
func fixedWorkloads() []workload {
	var list []workload
	for i, w := range workloads() {
		if i%3 == 0 {
			list = append(list, w)
		}
	}
	for i, set := range tightSets() {
		if i%8 == 0 {
			for _, jobs := range patterns(set, i) {
				list = append(list, workload{set, jobs})
			}
		}
	}
	return list
}

// notLonger compares two response times, of which -1 is the longest one.
func notLonger(a, b int) bool {
	return b == -1 || a != -1 && a <= b
}

// sequencesAround lists every sequence of numbers in -1..n of up to n+1 entries.
func sequencesAround(n int) [][]int {
	all := [][]int{{}}
	for start := 0; len(all[start]) <= n; start++ {
		for i := -1; i <= n; i++ {
			all = append(all, append(slices.Clone(all[start]), i))
		}
	}
	return all
}

// invalidOrders has orders that fit no set of n tasks.
func invalidOrders(n int) [][]int {
	orders := [][]int{
		append(ascending(n), n),
		append(ascending(n), 0),
		append(ascending(n), -1),
		make([]int, 1000),
		slices.Repeat([]int{math.MinInt}, 10000),
	}
	for i := range n {
		orders = append(orders, ascending(i))
		for _, bad := range []int{-1, n, -n - 1, math.MinInt, math.MaxInt, 1 << 32, i - 1, i + 1} {
			order := ascending(n)
			order[i] = bad
			orders = append(orders, order)
		}
	}
	return orders
}

func TestFixedTestsSeeEveryKindOfSet(t *testing.T) {
	accepted, onlyEdf, onlySome, otherThanDeadlines, equal, exact, beyond, end := 0, 0, 0, 0, 0, 0, 0, 0
	for _, set := range fixedSets() {
		orders := feasibleOrders(set)
		if len(orders) > 0 {
			accepted++
		}
		if len(orders) == 0 && firstAbove(dueBy(set)) == -1 {
			onlyEdf++
		}
		if len(orders) > 0 && !meetsAll(set, ascending(len(set))) {
			onlySome++
		}
		if got, ok := impl.AssignPriorities(set); ok && !slices.Equal(got, impl.DeadlineMonotonic(set)) {
			otherThanDeadlines++
		}
		if len(set) > 2 && set[0].Deadline == set[1].Deadline {
			equal++
		}
		for i, r := range responsesByScan(set, ascending(len(set))) {
			if r == set[i].Deadline {
				exact++
			}
			if r == -1 && load(set, ascending(len(set)), i, set[i].Deadline+1) == set[i].Deadline+1 {
				beyond++
			}
		}
		if firstAbove(dueBy(set)) == 120 {
			end++
		}
	}
	if min(accepted, onlyEdf, onlySome, otherThanDeadlines, equal, exact, beyond) < 50 || end < 7 {
		t.Fatal(accepted, onlyEdf, onlySome, otherThanDeadlines, equal, exact, beyond, end)
	}
}

func TestP52EveryPermutationIsValid(t *testing.T) {
	for n := range 6 {
		set := slices.Repeat([]impl.Task{task(8, 9, 10)}, n)
		for _, order := range allOrders(n) {
			if !impl.OrderValid(set, order) || !impl.OrderValid(set, reversed(order)) {
				t.Fatalf("OrderValid(%v, %v) = false, or its reverse", set, order)
			}
			if n == 0 {
				continue
			}
			if impl.OrderValid(set, order[1:]) || impl.OrderValid(set, order[:n-1]) {
				t.Fatalf("%v is valid with one entry less", order)
			}
			for i := range n {
				for j := range n {
					other := slices.Clone(order)
					other[i] = other[j]
					if got := impl.OrderValid(set, other); got != (i == j) {
						t.Fatalf("OrderValid(%v, %v) = %v", set, other, got)
					}
				}
			}
		}
	}
}

func TestP52NothingElseIsValid(t *testing.T) {
	for n := range 6 {
		set := slices.Repeat([]impl.Task{task(1, 12, 12)}, n)
		valid := 0
		for _, order := range sequencesAround(n) {
			got := impl.OrderValid(set, order)
			if want := slices.Equal(slices.Sorted(slices.Values(order)), ascending(n)); got != want {
				t.Fatalf("OrderValid(%v, %v) = %v", set, order, got)
			}
			if got {
				valid++
			}
		}
		if want := len(allOrders(n)); valid != want {
			t.Fatalf("%d tasks have %d valid orders, want %d", n, valid, want)
		}
		for _, order := range invalidOrders(n) {
			if impl.OrderValid(set, order) {
				t.Fatalf("OrderValid(%v, %v) = true", set, order)
			}
		}
	}
}

func TestP52OrdersOfTheEmptySetAndOfInvalidSets(t *testing.T) {
	for _, set := range [][]impl.Task{nil, {}} {
		for _, order := range [][]int{nil, {}} {
			if !impl.OrderValid(set, order) {
				t.Fatal("the empty order of the empty set is invalid")
			}
		}
		if impl.OrderValid(set, []int{0}) || impl.OrderValid(set, []int{-1}) {
			t.Fatal("the empty set has more than one order")
		}
	}
	for _, set := range invalidSets() {
		for _, order := range [][]int{nil, {0}, ascending(len(set)), reversed(ascending(len(set)))} {
			if impl.OrderValid(set, order) {
				t.Fatalf("OrderValid(%v, %v) = true", set, order)
			}
		}
	}
}

func TestP53ResponseTimesAreTheSmallestFixedPoints(t *testing.T) {
	for _, set := range fixedSets() {
		for _, order := range allOrders(len(set)) {
			got := impl.ResponseTimes(set, order)
			if want := responsesByScan(set, order); !slices.Equal(got, want) {
				t.Fatalf("ResponseTimes(%v, %v) = %v, want %v", set, order, got, want)
			}
			if len(set) > 0 && got[order[0]] != set[order[0]].Cost {
				t.Fatalf("ResponseTimes(%v, %v) = %v: the highest priority waits", set, order, got)
			}
			if feasible := impl.FixedFeasible(set, order); feasible == slices.Contains(got, -1) {
				t.Fatalf("FixedFeasible(%v, %v) = %v with response times %v", set, order, feasible, got)
			}
		}
	}
}

func TestP53ResponsesAtAndBeyondTheDeadline(t *testing.T) {
	for _, set := range tightSets() {
		order := ascending(len(set))
		var deadlines []int
		for _, x := range set {
			deadlines = append(deadlines, x.Deadline)
		}
		if got := impl.ResponseTimes(set, order); !slices.Equal(got, deadlines) || !impl.FixedFeasible(set, order) {
			t.Fatalf("ResponseTimes(%v, %v) = %v", set, order, got)
		}
		for i, x := range set {
			if x.Deadline == x.Cost {
				continue
			}
			tighter, want := slices.Clone(set), slices.Clone(deadlines)
			tighter[i].Deadline--
			want[i] = -1
			if got := impl.ResponseTimes(tighter, order); !slices.Equal(got, want) || impl.FixedFeasible(tighter, order) {
				t.Fatalf("ResponseTimes(%v, %v) = %v, want %v", tighter, order, got, want)
			}
		}
	}
}

func TestP53ResponseTimeExamples(t *testing.T) {
	for _, c := range []struct {
		set   []impl.Task
		order []int
		want  []int
	}{
		{nil, nil, nil},
		{[]impl.Task{}, []int{}, nil},
		{[]impl.Task{task(1, 1, 1)}, []int{0}, []int{1}},
		{[]impl.Task{task(8, 12, 12)}, []int{0}, []int{8}},
		{pairSet(), []int{0, 1}, []int{2, -1}},
		{pairSet(), []int{1, 0}, []int{-1, 3}},
		{[]impl.Task{task(2, 4, 4), task(3, 7, 7)}, []int{0, 1}, []int{2, 7}},
		{[]impl.Task{task(2, 4, 4), task(3, 6, 7)}, []int{0, 1}, []int{2, -1}},
		{[]impl.Task{task(2, 4, 4), task(2, 4, 6)}, []int{0, 1}, []int{2, 4}},
		{[]impl.Task{task(2, 4, 4), task(2, 3, 6)}, []int{0, 1}, []int{2, -1}},
		{[]impl.Task{task(2, 4, 4), task(2, 3, 6)}, []int{1, 0}, []int{4, 2}},
		{[]impl.Task{task(8, 12, 12), task(4, 12, 12)}, []int{0, 1}, []int{8, 12}},
		{[]impl.Task{task(8, 12, 12), task(5, 12, 12)}, []int{0, 1}, []int{8, -1}},
		// The task above takes the whole processor: there is no fixed point at all.
		{[]impl.Task{task(1, 1, 1), task(1, 12, 12)}, []int{0, 1}, []int{1, -1}},
		{[]impl.Task{task(1, 1, 1), task(1, 12, 12)}, []int{1, 0}, []int{-1, 1}},
		// A task that is late itself interferes with those below it as usual.
		{[]impl.Task{task(4, 4, 12), task(2, 4, 12), task(1, 12, 12)}, []int{0, 1, 2}, []int{4, -1, 7}},
		{[]impl.Task{task(1, 12, 12), task(2, 4, 12), task(4, 4, 12)}, []int{2, 1, 0}, []int{7, -1, 4}},
		{[]impl.Task{task(1, 3, 3), task(1, 4, 4), task(2, 10, 10)}, []int{0, 1, 2}, []int{1, 2, 6}},
		{[]impl.Task{task(2, 10, 10), task(1, 4, 4), task(1, 3, 3)}, []int{2, 1, 0}, []int{6, 2, 1}},
		{slices.Repeat([]impl.Task{task(1, 5, 5)}, 5), []int{3, 1, 4, 0, 2}, []int{4, 2, 5, 1, 3}},
		{slices.Repeat([]impl.Task{task(8, 8, 8)}, 5), []int{0, 1, 2, 3, 4}, []int{8, -1, -1, -1, -1}},
	} {
		if got := impl.ResponseTimes(c.set, c.order); !slices.Equal(got, c.want) {
			t.Fatalf("ResponseTimes(%v, %v) = %v, want %v", c.set, c.order, got, c.want)
		}
		if got, want := impl.FixedFeasible(c.set, c.order), !slices.Contains(c.want, -1); got != want {
			t.Fatalf("FixedFeasible(%v, %v) = %v", c.set, c.order, got)
		}
	}
}

func TestP53ResponseTimesOfInvalidArguments(t *testing.T) {
	check := func(set []impl.Task, order []int) {
		t.Helper()
		if got := impl.ResponseTimes(set, order); len(got) != 0 {
			t.Fatalf("ResponseTimes(%v, %v) = %v", set, order, got)
		}
		if impl.FixedFeasible(set, order) {
			t.Fatalf("FixedFeasible(%v, %v) = true", set, order)
		}
	}
	for n := range 6 {
		set := slices.Repeat([]impl.Task{task(1, 12, 12)}, n)
		for _, order := range invalidOrders(n) {
			check(set, order)
		}
	}
	for _, set := range invalidSets() {
		check(set, nil)
		check(set, []int{0})
		check(set, ascending(len(set)))
	}
}

func TestP118AHigherPriorityNeverLengthensAResponseTime(t *testing.T) {
	shorter, longer := 0, 0
	for _, set := range fixedSets() {
		for _, order := range allOrders(len(set)) {
			before := impl.ResponseTimes(set, order)
			for place := 1; place < len(order); place++ {
				other := slices.Clone(order)
				raised, lowered := order[place], order[place-1]
				other[place-1], other[place] = raised, lowered
				after := impl.ResponseTimes(set, other)
				if !notLonger(after[raised], before[raised]) || !notLonger(before[lowered], after[lowered]) {
					t.Fatalf("%v: response times %v with %v, %v with %v", set, before, order, after, other)
				}
				if after[raised] != before[raised] {
					shorter++
				}
				if after[lowered] != before[lowered] {
					longer++
				}
			}
		}
	}
	if min(shorter, longer) < 100 {
		t.Fatal(shorter, longer)
	}
}

func TestP119LessInterferenceNeverLengthensAResponseTime(t *testing.T) {
	shorter := 0
	for _, set := range fixedSets() {
		for _, order := range allOrders(len(set)) {
			if len(order) == 0 {
				continue
			}
			before := impl.ResponseTimes(set, order)
			for cost := 1; cost < set[order[0]].Cost; cost++ {
				cheaper := slices.Clone(set)
				cheaper[order[0]].Cost = cost
				after := impl.ResponseTimes(cheaper, order)
				if len(after) != len(set) || after[order[0]] != cost {
					t.Fatalf("ResponseTimes(%v, %v) = %v", cheaper, order, after)
				}
				for i := range set {
					if !notLonger(after[i], before[i]) {
						t.Fatalf("%v in the order %v: response times %v, with a first cost of %d %v", set, order, before, cost, after)
					}
					if i != order[0] && after[i] != before[i] {
						shorter++
					}
				}
			}
		}
	}
	if shorter < 100 {
		t.Fatal(shorter)
	}
}

func TestP54FixedPrioritiesScheduleNoMoreThanEdf(t *testing.T) {
	accepted, onlyEdf := 0, 0
	for _, set := range slices.Concat(fixedSets(), tightSets()) {
		edf, fixed := impl.EdfFeasible(set), false
		for _, order := range allOrders(len(set)) {
			if !impl.FixedFeasible(set, order) {
				continue
			}
			fixed = true
			if !edf {
				t.Fatalf("%v is feasible in the order %v, but not under earliest deadline first", set, order)
			}
		}
		if fixed {
			accepted++
		} else if edf {
			onlyEdf++
		}
	}
	if min(accepted, onlyEdf) < 100 {
		t.Fatal(accepted, onlyEdf)
	}
}

func TestP6AudsleyFindsAnOrderIfThereIsOne(t *testing.T) {
	for _, set := range fixedSets() {
		got, ok := impl.AssignPriorities(set)
		feasible := feasibleOrders(set)
		if ok != (len(feasible) > 0) {
			t.Fatalf("AssignPriorities(%v) = %v, %v, but the feasible orders are %v", set, got, ok, feasible)
		}
		if !ok {
			if len(got) != 0 {
				t.Fatalf("AssignPriorities(%v) = %v, false", set, got)
			}
			for _, order := range allOrders(len(set)) {
				if impl.FixedFeasible(set, order) {
					t.Fatalf("AssignPriorities(%v) finds no order, but %v is feasible", set, order)
				}
			}
			continue
		}
		if !impl.OrderValid(set, got) || !impl.FixedFeasible(set, got) {
			t.Fatalf("AssignPriorities(%v) = %v is not feasible", set, got)
		}
		// Every task that can have a level may have it, so that the lowest indices go to the lowest levels as far as any order permits.
		want := slices.MinFunc(feasible, func(a, b []int) int { return slices.Compare(reversed(a), reversed(b)) })
		if !slices.Equal(got, want) {
			t.Fatalf("AssignPriorities(%v) = %v, want %v", set, got, want)
		}
	}
}

func TestP6AssignPrioritiesExamples(t *testing.T) {
	for _, c := range []struct {
		set  []impl.Task
		want []int
		ok   bool
	}{
		{nil, nil, true},
		{[]impl.Task{}, nil, true},
		{[]impl.Task{task(8, 8, 12)}, []int{0}, true},
		// No order is feasible.
		{pairSet(), nil, false},
		{[]impl.Task{task(1, 1, 12), task(1, 1, 12)}, nil, false},
		{[]impl.Task{task(1, 12, 12), task(1, 1, 12), task(1, 1, 12)}, nil, false},
		{slices.Repeat([]impl.Task{task(8, 12, 12)}, 5), nil, false},
		// The task with the lowest index gets the lowest level if it meets its deadline there.
		{[]impl.Task{task(1, 12, 12), task(1, 12, 12)}, []int{1, 0}, true},
		{[]impl.Task{task(2, 4, 4), task(2, 6, 6)}, []int{1, 0}, true},
		{[]impl.Task{task(2, 3, 4), task(2, 6, 6)}, []int{0, 1}, true},
		{[]impl.Task{task(1, 12, 12), task(1, 1, 12), task(1, 12, 12)}, []int{1, 2, 0}, true},
		{[]impl.Task{task(1, 1, 12), task(1, 12, 12), task(1, 12, 12)}, []int{0, 2, 1}, true},
		{[]impl.Task{task(1, 2, 12), task(1, 12, 12), task(1, 1, 12)}, []int{2, 0, 1}, true},
		{slices.Repeat([]impl.Task{task(1, 5, 5)}, 5), []int{4, 3, 2, 1, 0}, true},
		{slices.Repeat([]impl.Task{task(1, 4, 5)}, 5), nil, false},
	} {
		if got, ok := impl.AssignPriorities(c.set); ok != c.ok || !slices.Equal(got, c.want) {
			t.Fatalf("AssignPriorities(%v) = %v, %v, want %v", c.set, got, ok, c.want)
		}
	}
}

func TestP6InvalidSetsHaveNoOrder(t *testing.T) {
	for _, set := range invalidSets() {
		if got, ok := impl.AssignPriorities(set); ok || len(got) != 0 {
			t.Fatalf("AssignPriorities(%v) = %v, %v", set, got, ok)
		}
	}
}

func TestP7DeadlineMonotonicIsOptimal(t *testing.T) {
	for _, set := range slices.Concat(fixedSets(), tightSets(), tooTightSets()) {
		order := impl.DeadlineMonotonic(set)
		want := ascending(len(set))
		slices.SortStableFunc(want, func(a, b int) int { return cmp.Compare(set[a].Deadline, set[b].Deadline) })
		if !slices.Equal(order, want) || !impl.OrderValid(set, order) {
			t.Fatalf("DeadlineMonotonic(%v) = %v, want %v", set, order, want)
		}
		if _, ok := impl.AssignPriorities(set); ok != impl.FixedFeasible(set, order) || ok != meetsAll(set, order) {
			t.Fatalf("AssignPriorities(%v) finds an order: %v, but %v is otherwise", set, ok, order)
		}
	}
}

func TestP7DeadlineMonotonicExamples(t *testing.T) {
	for _, c := range []struct {
		set  []impl.Task
		want []int
	}{
		{nil, nil},
		{[]impl.Task{}, nil},
		{[]impl.Task{task(1, 1, 1)}, []int{0}},
		{pairSet(), []int{0, 1}},
		{[]impl.Task{task(3, 6, 6), task(2, 4, 4)}, []int{1, 0}},
		// The deadline counts, and not the period or the cost.
		{[]impl.Task{task(1, 9, 9), task(8, 8, 12)}, []int{1, 0}},
		{[]impl.Task{task(4, 6, 12), task(1, 6, 6), task(2, 6, 9)}, []int{0, 1, 2}},
		{[]impl.Task{task(1, 12, 12), task(1, 6, 12), task(1, 12, 12), task(1, 6, 12), task(1, 3, 12)}, []int{4, 1, 3, 0, 2}},
		{slices.Repeat([]impl.Task{task(8, 8, 8)}, 5), []int{0, 1, 2, 3, 4}},
	} {
		if got := impl.DeadlineMonotonic(c.set); !slices.Equal(got, c.want) {
			t.Fatalf("DeadlineMonotonic(%v) = %v, want %v", c.set, got, c.want)
		}
	}
	for _, set := range invalidSets() {
		if got := impl.DeadlineMonotonic(set); len(got) != 0 {
			t.Fatalf("DeadlineMonotonic(%v) = %v", set, got)
		}
	}
}

// missesWithEveryOrder checks a pattern that no policy can schedule.
func missesWithEveryOrder(t *testing.T, set []impl.Task, jobs []impl.Job, orders [][]int) {
	t.Helper()
	s := impl.RunEdf(set, jobs)
	if len(impl.Missed(jobs, s)) == 0 || len(missedBy(jobs, s.Run)) == 0 {
		t.Fatalf("RunEdf(%v, %v) misses no deadline", set, jobs)
	}
	for _, order := range orders {
		s := impl.RunFixed(set, order, jobs)
		if len(impl.Missed(jobs, s)) == 0 || len(missedBy(jobs, s.Run)) == 0 {
			t.Fatalf("RunFixed(%v, %v, %v) misses no deadline", set, order, jobs)
		}
	}
}

func TestP2ARejectedSetMissesADeadline(t *testing.T) {
	rejected := 0
	for i, set := range slices.Concat(demandSets(), tooTightSets()) {
		first := impl.FirstOverload(set)
		if first == -1 || first > 120 {
			continue
		}
		jobs := impl.Synchronous(set, first)
		if len(jobs) >= 60 {
			continue
		}
		rejected++
		orders := someOrders(len(set), i)
		if i%8 == 0 {
			orders = allOrders(len(set))
		}
		missesWithEveryOrder(t, set, jobs, orders)
	}
	if rejected < 1000 {
		t.Fatal(rejected)
	}
}

func TestP2OverloadAtTheEndOfTheSimulation(t *testing.T) {
	for _, set := range overloadsAtTheEnd() {
		jobs := impl.Synchronous(set, 120)
		if impl.FirstOverload(set) != 120 || len(jobs) >= 60 {
			t.Fatalf("%v has its first overload at %d, and %d jobs until then", set, impl.FirstOverload(set), len(jobs))
		}
		missesWithEveryOrder(t, set, jobs, allOrders(len(set)))
		// Only the last jobs are late: up to one tick before there is no overload.
		early := impl.Synchronous(set, 119)
		if missed := impl.Missed(early, impl.RunEdf(set, early)); len(missed) != 0 {
			t.Fatalf("%v misses %v before its first overload", set, missed)
		}
	}
}

func TestP3EarliestDeadlineFirstIsOptimal(t *testing.T) {
	met, rejected, onlyEdf := 0, 0, 0
	for i, w := range fixedWorkloads() {
		edf := impl.Missed(w.jobs, impl.RunEdf(w.set, w.jobs))
		for _, order := range someOrders(len(w.set), i) {
			fixed := impl.Missed(w.jobs, impl.RunFixed(w.set, order, w.jobs))
			if len(fixed) > 0 {
				if len(edf) == 0 {
					onlyEdf++
				}
				continue
			}
			met++
			if !impl.EdfFeasible(w.set) {
				rejected++
			}
			if len(edf) > 0 {
				t.Fatalf("%v with the jobs %v meets all deadlines in the order %v, but earliest deadline first misses %v", w.set, w.jobs, order, edf)
			}
		}
	}
	if min(met, rejected, onlyEdf) < 100 {
		t.Fatal(met, rejected, onlyEdf)
	}
}

func TestP4TheCriticalInstantAttainsTheResponseTime(t *testing.T) {
	accepted := 0
	for i, set := range slices.Concat(fixedSets(), tightSets()) {
		jobs := impl.Synchronous(set, 120)
		for k, order := range allOrders(len(set)) {
			times := impl.ResponseTimes(set, order)
			if slices.Contains(times, -1) || len(set) > 3 && (i+k)%7 != 0 {
				continue
			}
			accepted++
			finish := impl.RunFixed(set, order, jobs).Finish
			for n, job := range jobs {
				r := finish[n] - job.Release
				if job.Release == 0 && r != times[job.TaskID] || r < job.Exec || r > times[job.TaskID] {
					t.Fatalf("%v in the order %v: job %v responds in %d ticks, the response times are %v", set, order, job, r, times)
				}
			}
		}
	}
	if accepted < 1000 {
		t.Fatal(accepted)
	}
}

func TestP5AnAcceptedOrderMeetsAllDeadlines(t *testing.T) {
	accepted, unfinished := 0, 0
	for i, set := range slices.Concat(fixedSets(), tightSets()) {
		for k, order := range allOrders(len(set)) {
			if !impl.FixedFeasible(set, order) || (i+k)%5 != 0 {
				continue
			}
			accepted++
			times := impl.ResponseTimes(set, order)
			for _, jobs := range patterns(set, i+k) {
				s := impl.RunFixed(set, order, jobs)
				if len(s.Finish) != len(jobs) || len(impl.Missed(jobs, s)) != 0 || len(missedBy(jobs, s.Run)) != 0 {
					t.Fatalf("RunFixed(%v, %v, %v) misses %v", set, order, jobs, impl.Missed(jobs, s))
				}
				for n, job := range jobs {
					// A job may still run when the simulation ends.
					bound := job.Release + times[job.TaskID]
					if s.Finish[n] == -1 && bound > 120 {
						unfinished++
					} else if s.Finish[n] == -1 || s.Finish[n] > bound {
						t.Fatalf("RunFixed(%v, %v, %v): job %d finishes at %d, not by %d", set, order, jobs, n, s.Finish[n], bound)
					}
				}
			}
		}
	}
	if min(accepted, unfinished) < 100 {
		t.Fatal(accepted, unfinished)
	}
}

func TestP55LowerPrioritiesDoNotDisturb(t *testing.T) {
	removed := 0
	for i, w := range fixedWorkloads() {
		for _, order := range someOrders(len(w.set), i) {
			if len(order) == 0 {
				continue
			}
			lowest := order[len(order)-1]
			s := impl.RunFixed(w.set, order, w.jobs)
			var others []impl.Job
			var want []int
			for k, job := range w.jobs {
				if job.TaskID != lowest {
					others = append(others, job)
					want = append(want, s.Finish[k])
				}
			}
			removed += len(w.jobs) - len(others)
			if got := impl.RunFixed(w.set, order, others).Finish; !slices.Equal(got, want) {
				t.Fatalf("RunFixed(%v, %v, %v) finishes at %v, with the jobs of task %d at %v", w.set, order, others, got, lowest, want)
			}
		}
	}
	if removed < 1000 {
		t.Fatal(removed)
	}
}

func TestP117TheHighestPriorityRuns(t *testing.T) {
	for i, w := range fixedWorkloads() {
		for _, order := range someOrders(len(w.set), i) {
			s := impl.RunFixed(w.set, order, w.jobs)
			if want := fixedByScan(order, w.jobs); !equalSchedules(s, want) {
				t.Fatalf("RunFixed(%v, %v, %v) = %v, want %v", w.set, order, w.jobs, s, want)
			}
			checkHighestRuns(t, order, w.jobs, s.Run)
		}
	}
}

func checkHighestRuns(t *testing.T, order []int, jobs []impl.Job, run []int) {
	t.Helper()
	done := make([]int, len(jobs))
	place := func(i int) int { return slices.Index(order, jobs[i].TaskID) }
	for now, i := range run {
		for k, job := range jobs {
			if job.Release > now || done[k] == job.Exec || k == i {
				continue
			}
			if i == -1 || place(k) < place(i) || place(k) == place(i) && k < i {
				t.Fatalf("with %v in the order %v, job %d runs at %d, while %d waits", jobs, order, i, now, k)
			}
		}
		if i != -1 {
			done[i]++
		}
	}
}

func TestP117RunFixedExamples(t *testing.T) {
	set := pairSet()
	long := []impl.Task{task(8, 12, 12), task(2, 3, 12)}
	crowded := []impl.Task{task(3, 4, 4), task(2, 4, 4)}
	for _, c := range []struct {
		set    []impl.Task
		order  []int
		jobs   []impl.Job
		start  int
		run    []int
		finish []int
	}{
		{nil, nil, nil, 0, nil, nil},
		{[]impl.Task{}, []int{}, []impl.Job{}, 0, nil, nil},
		{set, []int{0, 1}, nil, 0, nil, nil},
		{set, []int{1, 0}, []impl.Job{jobOf(set, 0, 0, 1)}, 0, []int{0}, []int{1}},
		{set, []int{0, 1}, synchronousTo(set, 12), 0, []int{0, 0, 1, 1, 2, 2, 1, 3, 4, 4, 3, 3}, []int{2, 7, 6, 12, 10}},
		{set, []int{1, 0}, synchronousTo(set, 12), 0, []int{1, 1, 1, 0, 0, 2, 3, 3, 3, 2, 4, 4}, []int{5, 3, 10, 9, 12}},
		{set, []int{0, 1}, []impl.Job{jobOf(set, 0, 119, 1), jobOf(set, 1, 119, 1)}, 119, []int{0}, []int{120, -1}},
		{set, []int{1, 0}, []impl.Job{jobOf(set, 0, 119, 1), jobOf(set, 1, 119, 1)}, 119, []int{1}, []int{-1, 120}},
		{set, []int{1, 0}, []impl.Job{jobOf(set, 0, 119, 2)}, 119, []int{0}, []int{-1}},
		// The priority counts, and not the deadline.
		{long, []int{0, 1}, []impl.Job{jobOf(long, 1, 3, 2), jobOf(long, 0, 4, 8)}, 3, []int{0, 1, 1, 1, 1, 1, 1, 1, 1, 0}, []int{13, 12}},
		{long, []int{1, 0}, []impl.Job{jobOf(long, 0, 3, 8), jobOf(long, 1, 5, 2)}, 3, []int{0, 0, 1, 1, 0, 0, 0, 0, 0, 0}, []int{13, 7}},
		// Two jobs of one task wait: the earlier one runs first.
		{crowded, []int{0, 1}, synchronousTo(crowded, 8), 0, []int{0, 0, 0, 1, 2, 2, 2, 1, 3, 3}, []int{3, 8, 7, 10}},
		{crowded, []int{1, 0}, synchronousTo(crowded, 8), 0, []int{1, 1, 0, 0, 3, 3, 0, 2, 2, 2}, []int{7, 2, 10, 6}},
	} {
		want := slices.Repeat([]int{-1}, 120)
		copy(want[c.start:], c.run)
		s := impl.RunFixed(c.set, c.order, c.jobs)
		if !slices.Equal(s.Run, want) || !slices.Equal(s.Finish, c.finish) {
			t.Fatalf("RunFixed(%v, %v, %v) = %v", c.set, c.order, c.jobs, s)
		}
	}
}

func TestP117RunFixedOfInvalidArguments(t *testing.T) {
	check := func(set []impl.Task, order []int, jobs []impl.Job) {
		t.Helper()
		if s := impl.RunFixed(set, order, jobs); len(s.Run) != 0 || len(s.Finish) != 0 {
			t.Fatalf("RunFixed(%v, %v, %v) = %v", set, order, jobs, s)
		}
	}
	for _, jobs := range illegalPatterns() {
		check(pairSet(), []int{0, 1}, jobs)
		check(pairSet(), []int{1, 0}, jobs)
		check(pairSet(), []int{0, 0}, jobs)
		check(nil, nil, jobs)
	}
	for n := range 6 {
		set := slices.Repeat([]impl.Task{task(1, 12, 12)}, n)
		for _, order := range invalidOrders(n) {
			check(set, order, nil)
			check(set, order, periodic(set))
		}
	}
	for _, set := range invalidSets() {
		check(set, nil, nil)
		check(set, ascending(len(set)), nil)
		check(set, ascending(len(set)), []impl.Job{{TaskID: 0, Release: 0, Deadline: 2, Exec: 1}})
	}
	for i, w := range workloads() {
		if i%97 != 0 {
			continue
		}
		for _, jobs := range variants(w.jobs) {
			if !isLegal(w.set, jobs) {
				check(w.set, ascending(len(w.set)), jobs)
			}
		}
	}
}

// callFixedFunctions calls all functions of the chapter and fills their results, spare capacity included, with other numbers.
func callFixedFunctions(set []impl.Task, order []int, jobs []impl.Job) {
	impl.OrderValid(set, order)
	impl.FixedFeasible(set, order)
	overwrite(impl.ResponseTimes(set, order))
	overwrite(impl.DeadlineMonotonic(set))
	assigned, _ := impl.AssignPriorities(set)
	overwrite(assigned)
	s := impl.RunFixed(set, order, jobs)
	overwrite(s.Run)
	overwrite(s.Finish)
}

func TestFixedFunctionsDoNotWriteToArguments(t *testing.T) {
	check := func(set []impl.Task, order []int, jobs []impl.Job) {
		t.Helper()
		// Spare capacity belongs to the caller, too.
		tasks := append(slices.Clone(set), task(4, 5, 6), task(-1, -2, -3))
		entries := append(slices.Clone(order), 7, -8)
		list := append(slices.Clone(jobs), impl.Job{TaskID: 7, Release: 8, Deadline: 9, Exec: 10}, impl.Job{})
		tasksBefore, entriesBefore, listBefore := slices.Clone(tasks), slices.Clone(entries), slices.Clone(list)
		callFixedFunctions(tasks[:len(set)], entries[:len(order)], list[:len(jobs)])
		if !slices.Equal(tasks, tasksBefore) || !slices.Equal(entries, entriesBefore) || !slices.Equal(list, listBefore) {
			t.Fatalf("%v, %v and %v became %v, %v and %v", tasksBefore, entriesBefore, listBefore, tasks, entries, list)
		}
	}
	for i, w := range fixedWorkloads() {
		for _, order := range someOrders(len(w.set), i) {
			check(w.set, order, w.jobs)
		}
	}
	for n := range 6 {
		set := slices.Repeat([]impl.Task{task(1, 12, 12)}, n)
		for _, order := range invalidOrders(n) {
			check(set, order, periodic(set))
		}
	}
	for _, set := range invalidSets() {
		check(set, ascending(len(set)), synchronousTo(pairSet(), 12))
	}
	for _, jobs := range illegalPatterns() {
		check(pairSet(), []int{1, 0}, jobs)
	}
}

func TestFixedResultsShareNoMemory(t *testing.T) {
	set := []impl.Task{task(2, 4, 4), task(2, 6, 6), task(1, 12, 12)}
	order, jobs := []int{0, 1, 2}, synchronousTo(set, 24)
	wantTimes, wantRun := responsesByScan(set, order), fixedByScan(order, jobs)
	times, run := impl.ResponseTimes(set, order), impl.RunFixed(set, order, jobs)
	assigned, _ := impl.AssignPriorities(set)
	byDeadline := impl.DeadlineMonotonic(set)
	wantAssigned := slices.Clone(assigned)
	callFixedFunctions(set, order, jobs)
	overwrite(order)
	if !slices.Equal(times, wantTimes) || !equalSchedules(run, wantRun) {
		t.Fatal("two results share memory, or one shares it with the order")
	}
	if !slices.Equal(assigned, wantAssigned) || !slices.Equal(byDeadline, []int{0, 1, 2}) {
		t.Fatal("two orders share memory")
	}
	overwrite(run.Run)
	if !slices.Equal(run.Finish, wantRun.Finish) {
		t.Fatal("the parts of a schedule share memory")
	}
}
