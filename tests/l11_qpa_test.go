package tests

import (
	"math"
	"slices"
	"testing"

	"loop.example/deadlinescheduler/impl"
)

// deadlinesOf lists in ascending order the times up to the hyperperiod at which jobs of the synchronous pattern are due.
func deadlinesOf(set []impl.Task) []int {
	var list []int
	due := dueBy(set)
	for t := 1; t < len(due); t++ {
		if due[t] > due[t-1] {
			list = append(list, t)
		}
	}
	return list
}

// busyLength is for sets of tasks with utilization at most 1.
func busyLength(set []impl.Task) int {
	released := releasedBefore(set)
	for w := 1; ; w++ {
		if released[w] == w {
			return w
		}
	}
}

// quick is the course of the quick test: the times at which it evaluates the demand bound, and its answer.
type quick struct {
	feasible bool
	at       []int
}

// quickByTables follows the document with the tables of all deadlines and of the demand bound of all times.
func quickByTables(set []impl.Task) quick {
	if len(set) == 0 || !atMostOne(impl.Utilization(set)) {
		return quick{feasible: len(set) == 0}
	}
	deadlines, due := deadlinesOf(set), dueBy(set)
	before := func(end int) int {
		place, _ := slices.BinarySearch(deadlines, end)
		if place == 0 {
			return 0
		}
		return deadlines[place-1]
	}
	var course quick
	t := before(busyLength(set) + 1)
	for t > 0 {
		course.at = append(course.at, t)
		if due[t] > t {
			return course
		}
		// The smallest relative deadline is the first time at which a job is due.
		if due[t] <= deadlines[0] {
			break
		}
		if due[t] < t {
			t = due[t]
		} else {
			t = before(t)
		}
	}
	course.feasible = true
	return course
}

// longSets has sets of MaxTasks tasks with the largest hyperperiod and a utilization of mostly at most 1.
func longSets() [][]impl.Task {
	var sets [][]impl.Task
	next := sequence{11}
	for _, periods := range [][]int{{7, 8, 9, 10, 11}, {11, 9, 5, 7, 8}} {
		for range 150 {
			var set []impl.Task
			for _, period := range periods {
				cost := 1 + next.spread(3)
				deadline := cost + next.spread(period-cost+1)
				set = append(set, task(cost, deadline, period))
			}
			sets = append(sets, set)
		}
	}
	return append(sets,
		[]impl.Task{task(1, 7, 7), task(1, 8, 8), task(1, 9, 9), task(1, 10, 10), task(1, 11, 11)},
		[]impl.Task{task(7, 7, 7), task(8, 8, 8), task(8, 9, 9), task(8, 10, 10), task(8, 11, 11)},
	)
}

// pairSets has every set of two tasks, in one of the two orders.
func pairSets() [][]impl.Task {
	var sets [][]impl.Task
	tasks := validTasks()
	for i, x := range tasks {
		for _, y := range tasks[:i+1] {
			sets = append(sets, []impl.Task{x, y})
		}
	}
	return sets
}

func quickSets() [][]impl.Task {
	return slices.Concat(demandSets(), longSets(), pairSets())
}

func TestQuickTestsSeeEveryKindOfSet(t *testing.T) {
	kinds := map[string]int{}
	for _, set := range quickSets() {
		if len(set) == 0 || !atMostOne(impl.Utilization(set)) {
			kinds["no busy period"]++
			continue
		}
		course, due, deadlines, busy := quickByTables(set), dueBy(set), deadlinesOf(set), busyLength(set)
		if len(course.at) == 0 {
			kinds["no deadline in the busy period"]++
			continue
		}
		full := impl.Utilization(set) == impl.Fraction{Num: 1, Den: 1}
		last := course.at[len(course.at)-1]
		inside := 0
		for _, d := range deadlines {
			if d <= busy {
				inside++
			}
		}
		for name, is := range map[string]bool{
			"full and feasible":                     full && course.feasible,
			"full and not feasible":                 full && !course.feasible,
			"overload at the last deadline":         !course.feasible && len(course.at) == 1 && inside > 1,
			"overload at the first deadline only":   !course.feasible && last == deadlines[0] && inside > 1 && firstAbove(due) == deadlines[0],
			"overload at the only deadline":         !course.feasible && inside == 1,
			"overload beyond the first found":       !course.feasible && firstAbove(due) < last,
			"ends at the smallest deadline":         course.feasible && due[last] == deadlines[0],
			"ends below the smallest deadline":      course.feasible && due[last] < deadlines[0],
			"evaluated at a time without deadline":  slices.ContainsFunc(course.at, func(t int) bool { return due[t] == due[t-1] }),
			"demand equal to t":                     slices.ContainsFunc(course.at, func(t int) bool { return due[t] == t && t > deadlines[0] }),
			"many evaluations":                      len(course.at) > 20,
			"the largest hyperperiod, feasible":     impl.Hyperperiod(set) == multipleOfAllPeriods && course.feasible,
			"the largest hyperperiod, not feasible": impl.Hyperperiod(set) == multipleOfAllPeriods && !course.feasible,
			"MaxTasks tasks, feasible":              len(set) == impl.MaxTasks && course.feasible,
			"MaxTasks tasks, not feasible":          len(set) == impl.MaxTasks && !course.feasible,
		} {
			if is {
				kinds[name]++
			}
		}
	}
	for _, name := range []string{"overload at the first deadline only", "full and not feasible", "many evaluations", "the largest hyperperiod, feasible", "the largest hyperperiod, not feasible", "MaxTasks tasks, not feasible"} {
		if kinds[name] < 20 {
			t.Fatalf("%s: %d", name, kinds[name])
		}
	}
	if len(kinds) != 17 {
		t.Fatal(kinds)
	}
}

func TestP18QuickTestAgreesWithTheFullTest(t *testing.T) {
	for _, set := range quickSets() {
		got, _ := impl.QuickTest(set)
		if want := firstAbove(dueBy(set)) == -1; got != want || got != impl.EdfFeasible(set) {
			t.Fatalf("QuickTest(%v) = %v, EdfFeasible %v", set, got, impl.EdfFeasible(set))
		}
	}
}

func TestP18QuickTestExamples(t *testing.T) {
	for _, c := range []struct {
		set      []impl.Task
		feasible bool
		count    int
	}{
		{nil, true, 0},
		{[]impl.Task{}, true, 0},
		// At 12, 8, 7 and 5.
		{[]impl.Task{task(2, 4, 4), task(3, 6, 6)}, true, 4},
		// At 12, 10, 8, 7, 5 and 4.
		{[]impl.Task{task(2, 4, 4), task(3, 4, 6)}, false, 6},
		// The busy period ends before the first deadline.
		{[]impl.Task{task(1, 5, 9)}, true, 0},
		{[]impl.Task{task(8, 12, 12)}, true, 0},
		{[]impl.Task{task(1, 3, 4), task(1, 3, 4)}, true, 0},
		{slices.Repeat([]impl.Task{task(2, 11, 12)}, 5), true, 0},
		// The busy period ends at its only deadline.
		{[]impl.Task{task(1, 1, 1)}, true, 1},
		{[]impl.Task{task(8, 8, 12)}, true, 1},
		{slices.Repeat([]impl.Task{task(1, 5, 5)}, 5), true, 1},
		// At 2, where the demand is at most the smallest deadline.
		{[]impl.Task{task(2, 2, 8), task(3, 8, 8)}, true, 1},
		{[]impl.Task{task(1, 2, 4), task(2, 4, 8)}, true, 1},
		// At 8 and 3: the overload is at the first deadline.
		{[]impl.Task{task(2, 3, 8), task(2, 3, 8), task(4, 8, 8)}, false, 2},
		// The overload is at the last deadline.
		{[]impl.Task{task(4, 4, 8), task(4, 6, 8)}, false, 1},
		{[]impl.Task{task(6, 11, 12), task(6, 11, 12)}, false, 1},
		{[]impl.Task{task(1, 1, 12), task(1, 1, 12)}, false, 1},
		// The utilization exceeds 1.
		{[]impl.Task{task(1, 1, 1), task(1, 12, 12)}, false, 0},
		{slices.Repeat([]impl.Task{task(8, 12, 12)}, 5), false, 0},
		{slices.Repeat([]impl.Task{task(1, 1, 1)}, 5), false, 0},
		{[]impl.Task{task(7, 7, 7), task(8, 8, 8), task(8, 9, 9), task(8, 10, 10), task(8, 11, 11)}, false, 0},
	} {
		if feasible, count := impl.QuickTest(c.set); feasible != c.feasible || count != c.count {
			t.Fatalf("QuickTest(%v) = %v, %d, want %v, %d", c.set, feasible, count, c.feasible, c.count)
		}
	}
}

func TestP18QuickTestOfInvalidSets(t *testing.T) {
	for _, set := range invalidSets() {
		if feasible, count := impl.QuickTest(set); feasible || count != -1 {
			t.Fatalf("QuickTest(%v) = %v, %d", set, feasible, count)
		}
	}
}

func TestP78LastDeadlineIsTheLastOne(t *testing.T) {
	for _, set := range append(fewDemandSets(), longSets()[:3]...) {
		due, want := dueBy(set), 0
		if got := impl.LastDeadline(set, 0); got != 0 {
			t.Fatalf("LastDeadline(%v, 0) = %d", set, got)
		}
		for end := 1; end <= impl.Hyperperiod(set)+1; end++ {
			if end >= 2 && due[end-1] > due[end-2] {
				want = end - 1
			}
			if got := impl.LastDeadline(set, end); got != want {
				t.Fatalf("LastDeadline(%v, %d) = %d, want %d", set, end, got, want)
			}
		}
	}
}

func TestP78LastDeadlinesDescendThroughAllDeadlines(t *testing.T) {
	for _, set := range slices.Concat(demandSets(), longSets()) {
		// The deadlines of a longer hyperperiod are left to the sets of the other tests.
		if impl.Hyperperiod(set) > 2000 {
			continue
		}
		var descended []int
		for last := impl.LastDeadline(set, impl.Hyperperiod(set)+1); last > 0; last = impl.LastDeadline(set, last) {
			descended = append(descended, last)
		}
		slices.Reverse(descended)
		if want := deadlinesOf(set); !slices.Equal(descended, want) {
			t.Fatalf("%v: the deadlines are %v, want %v", set, descended, want)
		}
	}
}

func TestP78LastDeadlineExamples(t *testing.T) {
	pair := []impl.Task{task(2, 4, 4), task(3, 6, 6)}
	short := []impl.Task{task(1, 2, 5)}
	long := []impl.Task{task(1, 7, 7), task(1, 8, 8), task(1, 9, 9), task(1, 10, 10), task(1, 11, 11)}
	for _, c := range []struct {
		set  []impl.Task
		end  int
		want int
	}{
		{nil, 0, 0},
		{nil, 1, 0},
		{nil, 2, 0},
		{[]impl.Task{}, 2, 0},
		{[]impl.Task{task(1, 1, 1)}, 0, 0},
		{[]impl.Task{task(1, 1, 1)}, 1, 0},
		{[]impl.Task{task(1, 1, 1)}, 2, 1},
		{short, 1, 0},
		{short, 2, 0},
		{short, 3, 2},
		{short, 5, 2},
		{short, 6, 2},
		{pair, 0, 0},
		{pair, 1, 0},
		{pair, 4, 0},
		{pair, 5, 4},
		{pair, 6, 4},
		{pair, 7, 6},
		{pair, 8, 6},
		{pair, 9, 8},
		{pair, 12, 8},
		{pair, 13, 12},
		{long, 27720, 27720 - 7},
		{long, 27721, 27720},
		{slices.Repeat([]impl.Task{task(8, 8, 12)}, 5), 8, 0},
		{slices.Repeat([]impl.Task{task(8, 8, 12)}, 5), 13, 8},
	} {
		if got := impl.LastDeadline(c.set, c.end); got != c.want {
			t.Fatalf("LastDeadline(%v, %d) = %d, want %d", c.set, c.end, got, c.want)
		}
	}
}

func TestP78LastDeadlineOutsideTheHyperperiod(t *testing.T) {
	for _, set := range demandSets() {
		h := impl.Hyperperiod(set)
		for _, end := range []int{-1, -2, -h, math.MinInt, h + 2, h + 3, h + 12, 2*h + 2, math.MaxInt} {
			if got := impl.LastDeadline(set, end); got != -1 {
				t.Fatalf("LastDeadline(%v, %d) = %d", set, end, got)
			}
		}
	}
}

func TestP78LastDeadlineOfInvalidSets(t *testing.T) {
	for _, set := range invalidSets() {
		for _, end := range []int{math.MinInt, -1, 0, 1, 2, 3, 12, 27721, math.MaxInt} {
			if got := impl.LastDeadline(set, end); got != -1 {
				t.Fatalf("LastDeadline(%v, %d) = %d", set, end, got)
			}
		}
	}
}

// The promise speaks of deadlines only; by the chapter the test also goes to the demand that it has found, at which no job need be due.
func TestP79EvaluationsAreCounted(t *testing.T) {
	for _, set := range quickSets() {
		_, count := impl.QuickTest(set)
		if course := quickByTables(set); count != len(course.at) {
			t.Fatalf("QuickTest(%v) evaluates %d times, want %v", set, count, course.at)
		}
	}
}

func TestP79EvaluationsAreWithinTheBusyPeriod(t *testing.T) {
	for _, set := range quickSets() {
		_, count := impl.QuickTest(set)
		if len(set) == 0 || !atMostOne(impl.Utilization(set)) {
			if count != 0 {
				t.Fatalf("QuickTest(%v) evaluates %d times without a busy period", set, count)
			}
			continue
		}
		busy := busyLength(set)
		if count > busy {
			t.Fatalf("QuickTest(%v) evaluates %d times in a busy period of %d", set, count, busy)
		}
		if none := dueBy(set)[busy] == 0; none != (count == 0) {
			t.Fatalf("QuickTest(%v) evaluates %d times, without a deadline: %v", set, count, none)
		}
	}
}

func TestQuickFunctionsDoNotWriteToArguments(t *testing.T) {
	for _, set := range slices.Concat(demandSets(), invalidSets()) {
		// Spare capacity belongs to the caller, too.
		memory := append(slices.Clone(set), task(4, 5, 6), task(-1, -2, -3))
		before := slices.Clone(memory)
		argument := memory[:len(set)]
		impl.LastDeadline(argument, 2)
		impl.QuickTest(argument)
		if !slices.Equal(memory, before) {
			t.Fatalf("%v became %v", before, memory)
		}
	}
}
