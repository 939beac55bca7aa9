package tests

import (
	"math"
	"slices"
	"sync"
	"testing"

	"loop.example/deadlinescheduler/impl"
)

// implicitSet has tasks with one period, which is their deadline, too: they fit on a processor if their costs add up to at most the period.
func implicitSet(period int, costs ...int) []impl.Task {
	var set []impl.Task
	for _, cost := range costs {
		set = append(set, task(cost, period, period))
	}
	return set
}

// firstFitFails is the example of P134.
func firstFitFails() []impl.Task {
	return implicitSet(10, 4, 5, 6, 5)
}

// packedSets has four or five tasks that fill two or three processors, or almost: a fixed sequence picks the costs.
func packedSets() [][]impl.Task {
	s := &sequence{state: 7}
	var sets [][]impl.Task
	for i := range 1500 {
		period := 8 + s.below(5)
		var costs []int
		for range 4 + i%2 {
			costs = append(costs, 1+s.below(min(8, period)))
		}
		set := implicitSet(period, costs...)
		if i%3 == 0 {
			// A shorter deadline, too, so that the costs alone do not decide.
			set[i%len(set)].Deadline -= s.below(period - set[i%len(set)].Cost + 1)
		}
		sets = append(sets, set)
	}
	return sets
}

// filledSets has sets whose utilization is exactly a number of processors.
func filledSets() [][]impl.Task {
	return [][]impl.Task{
		{task(8, 8, 8)},
		{task(2, 4, 4), task(3, 6, 6)},
		{task(8, 8, 8), task(3, 3, 3)},
		implicitSet(10, 4, 5, 6, 5),
		implicitSet(10, 5, 5, 5, 5),
		implicitSet(12, 3, 8, 5, 8),
		implicitSet(12, 8, 8, 4, 4),
		implicitSet(10, 3, 2, 7, 8),
		implicitSet(10, 8, 8, 8, 4, 2),
		implicitSet(10, 5, 5, 7, 3),
		{task(1, 2, 2), task(2, 3, 3), task(4, 8, 8), task(4, 12, 12)},
		{task(4, 4, 4), task(1, 2, 2), task(2, 3, 3), task(3, 6, 6), task(4, 12, 12)},
		{task(5, 5, 5), task(6, 6, 6), task(7, 7, 7)},
		{task(1, 1, 1), task(2, 2, 2), task(3, 3, 3), task(4, 4, 4)},
		{task(1, 1, 1), task(2, 2, 2), task(3, 3, 3), task(4, 4, 4), task(5, 5, 5)},
		// Of these no two fill a processor, so that more are needed than the utilization asks for.
		implicitSet(9, 6, 6, 6),
		implicitSet(12, 8, 8, 8),
		implicitSet(10, 6, 6, 6, 6, 6),
	}
}

// apartSets has sets that need a processor for every task.
func apartSets() [][]impl.Task {
	return [][]impl.Task{
		implicitSet(12, 8, 8, 8, 8, 8),
		implicitSet(10, 6, 6, 6, 6, 6),
		slices.Repeat([]impl.Task{task(1, 1, 1)}, 5),
		slices.Repeat([]impl.Task{task(1, 1, 12)}, 5),
		slices.Repeat([]impl.Task{task(8, 8, 8)}, 3),
		{task(2, 2, 12), task(3, 4, 12), task(8, 8, 12)},
		{task(1, 1, 1), task(1, 12, 12)},
	}
}

func partitionSets() [][]impl.Task {
	sets := slices.Concat(packedSets(), filledSets(), apartSets(), overloadsAtTheEnd(), overloadsBeyondMaxTime(), lateOverloads())
	for i, set := range slices.Concat(sampleSets(), lightSets()) {
		if len(set) == 0 || i%3 == 0 {
			sets = append(sets, set)
		}
	}
	return sets
}

// packing knows which groups of the tasks of a set fit on one processor: bit i of a group stands for task i.
type packing struct {
	set  []impl.Task
	fits []bool
}

func packingOf(set []impl.Task) packing {
	p := packing{set: set, fits: make([]bool, 1<<len(set))}
	for group := range p.fits {
		var tasks []impl.Task
		for i, x := range set {
			if group>>i&1 == 1 {
				tasks = append(tasks, x)
			}
		}
		p.fits[group] = firstAbove(dueBy(tasks)) == -1
	}
	return p
}

// packings is computed only once, because it tries all groups of all sets.
var packings = sync.OnceValue(func() []packing {
	var all []packing
	for _, set := range partitionSets() {
		all = append(all, packingOf(set))
	}
	return all
})

// groups has the group of the tasks on every processor.
func groups(assign []int) [5]int {
	var all [5]int
	for i, core := range assign {
		all[core] |= 1 << i
	}
	return all
}

func (p packing) feasible(assign []int) bool {
	for _, group := range groups(assign) {
		if !p.fits[group] {
			return false
		}
	}
	return true
}

// firstFit returns the processors of the tasks before the first one that fits nowhere.
func (p packing) firstFit(cores int) []int {
	var on [5]int
	var assign []int
	for i := range p.set {
		core := slices.IndexFunc(on[:cores], func(group int) bool { return p.fits[group|1<<i] })
		if core == -1 {
			break
		}
		on[core] |= 1 << i
		assign = append(assign, core)
	}
	return assign
}

// smallest looks through all assignments, in lexicographic order, for a feasible one without a gap.
func (p packing) smallest(cores int) ([]int, bool) {
	for _, assign := range allAssignments(len(p.set), cores) {
		if !hasGap(assign) && p.feasible(assign) {
			return assign, true
		}
	}
	return nil, false
}

// needed is the smallest number of processors; the empty set needs one, too.
func (p packing) needed() int {
	for cores := 1; ; cores++ {
		if slices.ContainsFunc(allAssignments(len(p.set), cores), p.feasible) {
			return cores
		}
	}
}

// hasGap reports whether a processor below a used one is not used.
func hasGap(assign []int) bool {
	for _, core := range assign {
		if core > 0 && !slices.Contains(assign, core-1) {
			return true
		}
	}
	return false
}

// sequencesOf lists all lists of n of the numbers from..to, in lexicographic order.
func sequencesOf(n, from, to int) [][]int {
	all := [][]int{nil}
	for range n {
		var longer [][]int
		for _, list := range all {
			for x := from; x <= to; x++ {
				longer = append(longer, append(slices.Clone(list), x))
			}
		}
		all = longer
	}
	return all
}

// assignmentTable has the assignments of n tasks to a number of processors at [n][cores].
var assignmentTable = sync.OnceValue(func() [6][6][][]int {
	var table [6][6][][]int
	for n := range 6 {
		for cores := 1; cores <= 5; cores++ {
			table[n][cores] = sequencesOf(n, 0, cores-1)
		}
	}
	return table
})

func allAssignments(n, cores int) [][]int {
	return assignmentTable()[n][cores]
}

// someAssignments picks a part of the assignments of a set, the first and the last one among them.
func someAssignments(n, cores, seed int) [][]int {
	all := allAssignments(n, cores)
	if len(all) <= 40 {
		return all
	}
	s := &sequence{state: uint32(seed)}
	few := [][]int{all[0], all[len(all)-1]}
	for range 30 {
		few = append(few, all[s.below(len(all))])
	}
	return few
}

var invalidCores = []int{math.MinInt, -5, -1, 0, 6, 7, 100, math.MaxInt}

func TestPartitionLimits(t *testing.T) {
	if impl.MaxCores != 5 {
		t.Fatal(impl.MaxCores)
	}
}

func TestPartitionTestsSeeEveryKindOfSet(t *testing.T) {
	var needed [6]int
	filled, moreThanUtilization, searched, deep, deepest, wasteful := 0, 0, 0, 0, 0, 0
	for _, p := range packings() {
		n, u := p.needed(), impl.Utilization(p.set)
		needed[n]++
		if u.Num == n*u.Den {
			filled++
		}
		if u.Num <= (n-1)*u.Den && n > 1 {
			moreThanUtilization++
		}
		for cores := 1; cores <= 5; cores++ {
			assign, ok := p.smallest(cores)
			if ok && len(assign) > 0 && slices.Max(assign) >= n {
				wasteful++
			}
			placed := p.firstFit(cores)
			if !ok || len(placed) == len(p.set) {
				continue
			}
			searched++
			back := len(placed)
			for i := range placed {
				if placed[i] != assign[i] {
					back -= i
					break
				}
			}
			if back >= 2 {
				deep++
			}
			if back >= 3 {
				deepest++
			}
		}
	}
	if min(needed[1], needed[2], needed[3], needed[4]) < 100 || needed[5] < 10 || filled < 20 || min(moreThanUtilization, searched, deep, wasteful) < 50 || deepest < 10 {
		t.Fatal(needed, filled, moreThanUtilization, searched, deep, deepest, wasteful)
	}
}

func TestP67ExactlyTheProcessorsBelowTheNumberAreValid(t *testing.T) {
	for n := range 4 {
		set := slices.Repeat([]impl.Task{task(2, 5, 7)}, n)
		for cores := -1; cores <= 7; cores++ {
			for _, assign := range sequencesOf(n, -2, 7) {
				want := 1 <= cores && cores <= 5
				for _, core := range assign {
					want = want && 0 <= core && core < cores
				}
				if got := impl.AssignmentValid(set, cores, assign); got != want {
					t.Fatalf("AssignmentValid(%v, %d, %v) = %v", set, cores, assign, got)
				}
			}
		}
	}
}

func TestP67AllTasksOnProcessor0(t *testing.T) {
	for _, set := range partitionSets() {
		for cores := 1; cores <= 5; cores++ {
			if !impl.AssignmentValid(set, cores, make([]int, len(set))) {
				t.Fatalf("AssignmentValid(%v, %d) = false", set, cores)
			}
		}
	}
}

func TestP67MoreProcessorsKeepAnAssignmentValid(t *testing.T) {
	for i, set := range partitionSets() {
		for _, assign := range someAssignments(len(set), 5, i) {
			highest := 0
			for _, core := range assign {
				highest = max(highest, core)
			}
			for cores := 1; cores <= 5; cores++ {
				if got := impl.AssignmentValid(set, cores, assign); got != (cores > highest) {
					t.Fatalf("AssignmentValid(%v, %d, %v) = %v", set, cores, assign, got)
				}
			}
		}
	}
}

func TestP67TheEmptySet(t *testing.T) {
	for cores := 1; cores <= 5; cores++ {
		if !impl.AssignmentValid(nil, cores, nil) || !impl.AssignmentValid([]impl.Task{}, cores, []int{}) {
			t.Fatalf("the empty assignment to %d processors is invalid", cores)
		}
		if impl.AssignmentValid(nil, cores, []int{0}) {
			t.Fatalf("an assignment of no task to %d processors is valid", cores)
		}
	}
}

type placement struct {
	set    []impl.Task
	cores  int
	assign []int
}

// invalidPlacements has invalid sets, numbers of processors and entries, and assignments of another length.
func invalidPlacements() []placement {
	var list []placement
	for _, set := range invalidSets() {
		for _, cores := range []int{1, 2, 5} {
			list = append(list, placement{set, cores, make([]int, len(set))})
		}
		list = append(list, placement{set, 5, nil})
	}
	set := firstFitFails()
	for _, cores := range invalidCores {
		list = append(list,
			placement{set, cores, make([]int, 4)},
			placement{set, cores, []int{0, 1, 0, 1}},
			placement{set, cores, []int{cores - 1, 0, 0, 0}},
			placement{nil, cores, nil},
		)
	}
	for cores := 1; cores <= 5; cores++ {
		for _, n := range []int{0, 1, 3, 5, 6, 100} {
			list = append(list, placement{set, cores, make([]int, n)})
		}
		list = append(list, placement{nil, cores, []int{0}}, placement{[]impl.Task{}, cores, make([]int, 5)})
		for i := range set {
			for _, core := range []int{math.MinInt, -5, -1, cores, cores + 1, 5, 6, math.MaxInt} {
				assign := make([]int, len(set))
				assign[i] = core
				if core < 0 || core >= cores {
					list = append(list, placement{set, cores, assign})
				}
			}
		}
	}
	return list
}

func TestPartitionFunctionsOfInvalidAssignments(t *testing.T) {
	for _, p := range invalidPlacements() {
		if impl.AssignmentValid(p.set, p.cores, p.assign) {
			t.Fatalf("AssignmentValid(%v, %d, %v) = true", p.set, p.cores, p.assign)
		}
		if impl.AssignmentFeasible(p.set, p.cores, p.assign) {
			t.Fatalf("AssignmentFeasible(%v, %d, %v) = true", p.set, p.cores, p.assign)
		}
		for _, core := range []int{math.MinInt, -1, 0, 1, 2, 4, 5, p.cores, math.MaxInt} {
			if tasks := impl.CoreTasks(p.set, p.cores, p.assign, core); tasks != nil {
				t.Fatalf("CoreTasks(%v, %d, %v, %d) = %v", p.set, p.cores, p.assign, core, tasks)
			}
		}
	}
}

func TestSearchesOfInvalidArguments(t *testing.T) {
	check := func(set []impl.Task, cores int) {
		t.Helper()
		if assign, ok := impl.FirstFit(set, cores); ok || assign != nil {
			t.Fatalf("FirstFit(%v, %d) = %v, %v", set, cores, assign, ok)
		}
		if assign, ok := impl.Partition(set, cores); ok || assign != nil {
			t.Fatalf("Partition(%v, %d) = %v, %v", set, cores, assign, ok)
		}
	}
	for _, set := range invalidSets() {
		if n := impl.MinCores(set); n != 0 {
			t.Fatalf("MinCores(%v) = %d", set, n)
		}
		for _, cores := range append([]int{1, 2, 3, 4, 5}, invalidCores...) {
			check(set, cores)
		}
	}
	for _, cores := range invalidCores {
		for _, set := range [][]impl.Task{nil, {}, {task(1, 1, 1)}, firstFitFails(), apartSets()[0]} {
			check(set, cores)
		}
	}
}

func TestP68EveryTaskIsOnExactlyOneProcessor(t *testing.T) {
	unused := 0
	for i, set := range partitionSets() {
		for cores := 1; cores <= 5; cores++ {
			for _, assign := range someAssignments(len(set), cores, i) {
				total := 0
				for core := range cores {
					var want []impl.Task
					for k, x := range set {
						if assign[k] == core {
							want = append(want, x)
						}
					}
					got := impl.CoreTasks(set, cores, assign, core)
					if !slices.Equal(got, want) {
						t.Fatalf("CoreTasks(%v, %d, %v, %d) = %v", set, cores, assign, core, got)
					}
					total += len(got)
					if len(got) == 0 {
						unused++
					}
				}
				if total != len(set) {
					t.Fatalf("CoreTasks(%v, %d, %v) has %d tasks", set, cores, assign, total)
				}
			}
		}
	}
	if unused < 1000 {
		t.Fatal(unused)
	}
}

func TestP68ProcessorsOutsideOfTheRange(t *testing.T) {
	set := firstFitFails()
	for cores := 1; cores <= 5; cores++ {
		for _, assign := range allAssignments(4, cores) {
			for _, core := range []int{math.MinInt, -5, -1, cores, cores + 1, 6, math.MaxInt} {
				if got := impl.CoreTasks(set, cores, assign, core); got != nil {
					t.Fatalf("CoreTasks(%v, %d, %v, %d) = %v", set, cores, assign, core, got)
				}
			}
		}
		for core := range cores {
			if len(impl.CoreTasks(nil, cores, nil, core)) != 0 {
				t.Fatalf("processor %d of %d has a task of the empty set", core, cores)
			}
		}
	}
}

func TestP69FeasibleOnEveryProcessor(t *testing.T) {
	feasible, infeasible := 0, 0
	for i, p := range packings() {
		for cores := 1; cores <= 5; cores++ {
			for _, assign := range someAssignments(len(p.set), cores, i) {
				want := true
				for core := range cores {
					want = want && impl.EdfFeasible(impl.CoreTasks(p.set, cores, assign, core))
				}
				got := impl.AssignmentFeasible(p.set, cores, assign)
				if got != want || got != p.feasible(assign) {
					t.Fatalf("AssignmentFeasible(%v, %d, %v) = %v", p.set, cores, assign, got)
				}
				if got {
					feasible++
				} else {
					infeasible++
				}
			}
		}
	}
	if min(feasible, infeasible) < 1000 {
		t.Fatal(feasible, infeasible)
	}
}

func TestP69AnOverloadOfOneProcessorIsEnough(t *testing.T) {
	set := []impl.Task{task(6, 10, 10), task(5, 10, 10), task(1, 10, 10), task(1, 10, 10), task(1, 10, 10)}
	for over := range 5 {
		assign, other := []int{over, over}, 0
		for range 3 {
			if other == over {
				other++
			}
			assign = append(assign, other)
			other++
		}
		if impl.AssignmentFeasible(set, 5, assign) {
			t.Fatalf("AssignmentFeasible(%v, 5, %v) = true", set, assign)
		}
		assign[0] = (over + 1) % 5
		if !impl.AssignmentFeasible(set, 5, assign) {
			t.Fatalf("AssignmentFeasible(%v, 5, %v) = false", set, assign)
		}
	}
}

func TestP69MovingATaskToAnUnusedProcessor(t *testing.T) {
	moved := 0
	for i, p := range packings() {
		if i%4 != 0 {
			continue
		}
		for cores := 2; cores <= 5; cores++ {
			for _, assign := range someAssignments(len(p.set), cores, i) {
				if !impl.AssignmentFeasible(p.set, cores, assign) {
					continue
				}
				for core := range cores {
					if slices.Contains(assign, core) {
						continue
					}
					for k := range assign {
						other := slices.Clone(assign)
						other[k] = core
						if !impl.AssignmentFeasible(p.set, cores, other) {
							t.Fatalf("%v to %d processors: %v is feasible, %v is not", p.set, cores, assign, other)
						}
						moved++
					}
				}
			}
		}
	}
	if moved < 1000 {
		t.Fatal(moved)
	}
}

func TestP70FirstFitUsesTheLowestProcessorThatFits(t *testing.T) {
	failed := 0
	for _, p := range packings() {
		for cores := 1; cores <= 5; cores++ {
			assign, ok := impl.FirstFit(p.set, cores)
			want := p.firstFit(cores)
			if ok != (len(want) == len(p.set)) {
				t.Fatalf("FirstFit(%v, %d) = %v, %v", p.set, cores, assign, ok)
			}
			if !ok {
				failed++
				if assign != nil {
					t.Fatalf("FirstFit(%v, %d) = %v, %v", p.set, cores, assign, ok)
				}
				continue
			}
			if !slices.Equal(assign, want) || !impl.AssignmentFeasible(p.set, cores, assign) {
				t.Fatalf("FirstFit(%v, %d) = %v", p.set, cores, assign)
			}
			for i, core := range assign {
				for lower := range core {
					group := groups(assign[:i])[lower] | 1<<i
					if p.fits[group] {
						t.Fatalf("FirstFit(%v, %d) = %v, but task %d fits on %d", p.set, cores, assign, i, lower)
					}
				}
			}
		}
	}
	if failed < 1000 {
		t.Fatal(failed)
	}
}

func TestP70FirstFitOnOneProcessor(t *testing.T) {
	for _, p := range packings() {
		assign, ok := impl.FirstFit(p.set, 1)
		if ok != impl.EdfFeasible(p.set) || ok && !slices.Equal(assign, make([]int, len(p.set))) {
			t.Fatalf("FirstFit(%v, 1) = %v, %v", p.set, assign, ok)
		}
	}
}

type searchExample struct {
	set   []impl.Task
	cores int
	want  []int
	ok    bool
}

func checkSearchExamples(t *testing.T, name string, search func([]impl.Task, int) ([]int, bool), list []searchExample) {
	t.Helper()
	for _, c := range list {
		if got, ok := search(c.set, c.cores); ok != c.ok || !slices.Equal(got, c.want) {
			t.Fatalf("%s(%v, %d) = %v, %v, want %v", name, c.set, c.cores, got, ok, c.want)
		}
	}
}

// sharedExamples are the same for first fit and for the search.
func sharedExamples() []searchExample {
	list := []searchExample{
		{implicitSet(10, 5, 5), 1, []int{0, 0}, true},
		{implicitSet(10, 5, 6), 1, nil, false},
		{implicitSet(10, 5, 6), 2, []int{0, 1}, true},
		// A later task fills what the tasks before it have left on a lower processor.
		{implicitSet(10, 6, 6, 4, 4), 2, []int{0, 1, 0, 1}, true},
		{implicitSet(10, 6, 5, 5, 4), 2, []int{0, 1, 1, 0}, true},
		{implicitSet(10, 6, 6, 6), 2, nil, false},
		{implicitSet(10, 6, 6, 6), 3, []int{0, 1, 2}, true},
		// Deadlines count, not only utilization.
		{slices.Repeat([]impl.Task{task(1, 2, 12)}, 5), 2, nil, false},
		{slices.Repeat([]impl.Task{task(1, 2, 12)}, 5), 3, []int{0, 0, 1, 1, 2}, true},
		{[]impl.Task{task(2, 4, 4), task(3, 6, 6), task(8, 8, 8)}, 2, []int{0, 0, 1}, true},
		{[]impl.Task{task(2, 4, 4), task(3, 4, 6), task(8, 8, 8)}, 2, nil, false},
		// The overload comes only at the end of the hyperperiod.
		{[]impl.Task{task(1, 1, 1), task(1, 12, 12)}, 1, nil, false},
		{[]impl.Task{task(1, 1, 1), task(1, 12, 12)}, 2, []int{0, 1}, true},
		{[]impl.Task{task(1, 12, 12), task(1, 1, 1), task(8, 12, 12)}, 2, []int{0, 1, 0}, true},
	}
	for cores := 1; cores <= 5; cores++ {
		list = append(list,
			searchExample{nil, cores, nil, true},
			searchExample{[]impl.Task{}, cores, nil, true},
			searchExample{[]impl.Task{task(8, 8, 8)}, cores, []int{0}, true},
			searchExample{slices.Repeat([]impl.Task{task(1, 12, 12)}, 5), cores, make([]int, 5), true},
		)
		apart := searchExample{implicitSet(12, 8, 8, 8, 8, 8), cores, nil, cores == 5}
		if apart.ok {
			apart.want = []int{0, 1, 2, 3, 4}
		}
		list = append(list, apart)
	}
	return list
}

func TestP70FirstFitExamples(t *testing.T) {
	checkSearchExamples(t, "FirstFit", impl.FirstFit, append(sharedExamples(),
		searchExample{firstFitFails(), 2, nil, false},
		searchExample{firstFitFails(), 3, []int{0, 0, 1, 2}, true},
		searchExample{firstFitFails(), 5, []int{0, 0, 1, 2}, true},
		searchExample{implicitSet(12, 3, 2, 2, 8, 8), 2, nil, false},
		searchExample{implicitSet(12, 3, 2, 2, 8, 8), 3, []int{0, 0, 0, 1, 2}, true},
	))
}

func TestP12PartitionExamples(t *testing.T) {
	checkSearchExamples(t, "Partition", impl.Partition, append(sharedExamples(),
		searchExample{firstFitFails(), 1, nil, false},
		searchExample{firstFitFails(), 2, []int{0, 1, 0, 1}, true},
		// The smallest assignment may use more processors than necessary.
		searchExample{firstFitFails(), 3, []int{0, 0, 1, 2}, true},
		searchExample{firstFitFails(), 5, []int{0, 0, 1, 2}, true},
		// The last task shows that another one must be moved: the third one, ...
		searchExample{implicitSet(10, 1, 1, 1, 8, 8), 2, []int{0, 0, 1, 0, 1}, true},
		searchExample{implicitSet(10, 1, 1, 3, 6, 8), 2, []int{0, 0, 1, 1, 0}, true},
		searchExample{implicitSet(10, 7, 4, 4, 5, 6), 3, []int{0, 1, 2, 1, 2}, true},
		// ... or the second one, after all places of the two in between have been tried.
		searchExample{implicitSet(12, 3, 2, 2, 8, 8), 2, []int{0, 1, 1, 0, 1}, true},
		searchExample{implicitSet(12, 3, 2, 5, 5, 8), 2, []int{0, 1, 1, 1, 0}, true},
		searchExample{implicitSet(10, 1, 3, 7, 8, 8), 3, []int{0, 1, 1, 0, 2}, true},
		searchExample{implicitSet(10, 3, 1, 8, 8, 7), 3, []int{0, 1, 1, 2, 0}, true},
		searchExample{implicitSet(12, 3, 2, 2, 8, 8), 3, []int{0, 0, 0, 1, 2}, true},
		// All places are tried in vain, although the utilization is at most that of two processors.
		searchExample{implicitSet(10, 3, 3, 3, 8, 3), 2, nil, false},
		searchExample{implicitSet(10, 4, 4, 4, 4, 4), 2, nil, false},
	))
}

func TestP12TheSearchFindsTheSmallestAssignment(t *testing.T) {
	for _, p := range packings() {
		for cores := 1; cores <= 5; cores++ {
			got, ok := impl.Partition(p.set, cores)
			want, exists := p.smallest(cores)
			if ok != exists || !slices.Equal(got, want) || !ok && got != nil {
				t.Fatalf("Partition(%v, %d) = %v, %v, want %v, %v", p.set, cores, got, ok, want, exists)
			}
			if ok && (hasGap(got) || !impl.AssignmentFeasible(p.set, cores, got)) {
				t.Fatalf("Partition(%v, %d) = %v", p.set, cores, got)
			}
		}
	}
}

func TestP12TheSearchIsNotWorseThanFirstFit(t *testing.T) {
	for _, p := range packings() {
		for cores := 1; cores <= 5; cores++ {
			fit, fits := impl.FirstFit(p.set, cores)
			found, ok := impl.Partition(p.set, cores)
			if fits && (!ok || slices.Compare(found, fit) > 0) {
				t.Fatalf("FirstFit(%v, %d) = %v, but Partition = %v, %v", p.set, cores, fit, found, ok)
			}
		}
	}
}

func TestP12WithoutAPartitionNoAssignmentIsFeasible(t *testing.T) {
	tried := 0
	for i, p := range packings() {
		for cores := 1; cores <= 5; cores++ {
			if _, ok := impl.Partition(p.set, cores); ok {
				continue
			}
			for _, assign := range someAssignments(len(p.set), cores, i) {
				tried++
				if impl.AssignmentFeasible(p.set, cores, assign) {
					t.Fatalf("Partition(%v, %d) fails, but %v is feasible", p.set, cores, assign)
				}
			}
		}
	}
	if tried < 1000 {
		t.Fatal(tried)
	}
}

func TestP71TheMinimumIsExact(t *testing.T) {
	for _, p := range packings() {
		n := impl.MinCores(p.set)
		if want := p.needed(); n != want {
			t.Fatalf("MinCores(%v) = %d, want %d", p.set, n, want)
		}
		for cores := 1; cores <= 5; cores++ {
			if assign, ok := impl.Partition(p.set, cores); ok != (cores >= n) {
				t.Fatalf("MinCores(%v) = %d, but Partition with %d = %v, %v", p.set, n, cores, assign, ok)
			}
		}
		if u := impl.Utilization(p.set); u.Num > n*u.Den {
			t.Fatalf("MinCores(%v) = %d with utilization %v", p.set, n, u)
		}
		if (n == 1) != impl.EdfFeasible(p.set) {
			t.Fatalf("MinCores(%v) = %d, EdfFeasible %v", p.set, n, impl.EdfFeasible(p.set))
		}
	}
}

func TestP71Examples(t *testing.T) {
	for _, c := range []struct {
		set  []impl.Task
		want int
	}{
		{nil, 1},
		{[]impl.Task{}, 1},
		{[]impl.Task{task(8, 8, 8)}, 1},
		{[]impl.Task{task(2, 4, 4), task(3, 6, 6)}, 1},
		{[]impl.Task{task(2, 4, 4), task(3, 4, 6)}, 2},
		{[]impl.Task{task(1, 1, 1), task(1, 12, 12)}, 2},
		{firstFitFails(), 2},
		{implicitSet(12, 3, 2, 2, 8, 8), 2},
		{implicitSet(12, 8, 8, 4, 4), 2},
		{implicitSet(10, 6, 6, 6, 6, 6), 5},
		{implicitSet(10, 4, 4, 4, 4, 4), 3},
		{slices.Repeat([]impl.Task{task(1, 1, 12)}, 5), 5},
		{slices.Repeat([]impl.Task{task(1, 2, 12)}, 5), 3},
		{slices.Repeat([]impl.Task{task(1, 12, 12)}, 5), 1},
		{slices.Repeat([]impl.Task{task(8, 12, 12)}, 5), 5},
	} {
		if got := impl.MinCores(c.set); got != c.want {
			t.Fatalf("MinCores(%v) = %d, want %d", c.set, got, c.want)
		}
	}
	for _, set := range apartSets() {
		if got := impl.MinCores(set); got != len(set) {
			t.Fatalf("MinCores(%v) = %d", set, got)
		}
	}
}

func TestP121MoreProcessorsNeverHurt(t *testing.T) {
	for _, p := range packings() {
		for cores := 1; cores < 5; cores++ {
			fit, fits := impl.FirstFit(p.set, cores)
			for more := cores + 1; more <= 5; more++ {
				if other, ok := impl.FirstFit(p.set, more); fits && (!ok || !slices.Equal(other, fit)) {
					t.Fatalf("FirstFit(%v, %d) = %v, with %d %v, %v", p.set, cores, fit, more, other, ok)
				}
			}
			if _, ok := impl.Partition(p.set, cores); !ok {
				continue
			}
			if _, ok := impl.Partition(p.set, cores+1); !ok {
				t.Fatalf("Partition(%v, %d) succeeds, with %d it fails", p.set, cores, cores+1)
			}
		}
	}
}

func TestP121FewerTasksNeedNoMoreProcessors(t *testing.T) {
	fewer := 0
	for _, p := range packings() {
		n := impl.MinCores(p.set)
		for i := range p.set {
			rest := impl.MinCores(without(p.set, i))
			if rest < 1 || rest > n {
				t.Fatalf("MinCores(%v) = %d, without task %d %d", p.set, n, i, rest)
			}
			if rest < n {
				fewer++
			}
		}
	}
	if fewer < 100 {
		t.Fatal(fewer)
	}
}

func TestP134FirstFitMayNeedMoreProcessorsThanNecessary(t *testing.T) {
	set := firstFitFails()
	if n := impl.MinCores(set); n != 2 {
		t.Fatal(n)
	}
	if assign, ok := impl.Partition(set, 2); !ok || !slices.Equal(assign, []int{0, 1, 0, 1}) {
		t.Fatal(assign, ok)
	}
	for cores := 1; cores <= 5; cores++ {
		assign, ok := impl.FirstFit(set, cores)
		if ok != (cores >= 3) || ok && !slices.Equal(assign, []int{0, 0, 1, 2}) {
			t.Fatal(cores, assign, ok)
		}
	}
	// In descending order of the costs first fit needs no more than two.
	if assign, ok := impl.FirstFit(implicitSet(10, 6, 5, 5, 4), 2); !ok {
		t.Fatal(assign)
	}
}

// missesOn simulates the tasks of every processor by themselves, and reports whether one of them is late in one of the patterns.
func missesOn(t *testing.T, p placement, patternsOf func([]impl.Task) [][]impl.Job) bool {
	t.Helper()
	missed := false
	for core := range p.cores {
		tasks := impl.CoreTasks(p.set, p.cores, p.assign, core)
		for _, jobs := range patternsOf(tasks) {
			s := impl.RunEdf(tasks, jobs)
			if len(s.Run) != 120 || len(s.Finish) != len(jobs) {
				t.Fatalf("RunEdf(%v, %v) = %v", tasks, jobs, s)
			}
			missed = missed || len(impl.Missed(jobs, s)) != 0 || len(missedBy(jobs, s.Run)) != 0
		}
	}
	return missed
}

func synchronousOnly(set []impl.Task) [][]impl.Job {
	return [][]impl.Job{impl.Synchronous(set, 120)}
}

func TestP13PartitionedTasksMeetTheirDeadlines(t *testing.T) {
	met := 0
	for i, p := range packings() {
		if i%4 != 0 {
			continue
		}
		for cores := 1; cores <= 5; cores++ {
			list := someAssignments(len(p.set), cores, i)
			if assign, ok := impl.Partition(p.set, cores); ok {
				list = append(list, assign)
			}
			for k, assign := range list {
				if !impl.AssignmentFeasible(p.set, cores, assign) {
					continue
				}
				patternsOf := synchronousOnly
				if k%8 == 0 {
					patternsOf = func(set []impl.Task) [][]impl.Job { return patterns(set, i) }
				}
				if missesOn(t, placement{p.set, cores, assign}, patternsOf) {
					t.Fatalf("%v, assigned to %d processors as %v, is late", p.set, cores, assign)
				}
				met++
			}
		}
	}
	if met < 1000 {
		t.Fatal(met)
	}
}

func TestP13OverloadedProcessorsAreLate(t *testing.T) {
	// Otherwise the patterns of the tests would be too mild to tell.
	late := 0
	for i, set := range packedSets() {
		for _, assign := range someAssignments(len(set), 2, i) {
			p := placement{set, 2, assign}
			if !impl.AssignmentFeasible(set, 2, assign) && missesOn(t, p, synchronousOnly) {
				late++
			}
		}
	}
	if late < 1000 {
		t.Fatal(late)
	}
}

func (p placement) withSpare() placement {
	p.set = append(slices.Clone(p.set), task(4, 5, 6), task(-1, -2, -3))[:len(p.set)]
	p.assign = append(slices.Clone(p.assign), 7, -8)[:len(p.assign)]
	return p
}

func (p placement) equalWithSpare(other placement) bool {
	n, m := len(p.set)+2, len(p.assign)+2
	return slices.Equal(p.set[:n], other.set[:n]) && slices.Equal(p.assign[:m], other.assign[:m])
}

// overwriteTasks writes to the spare capacity, too, as overwrite does.
func overwriteTasks(list []impl.Task) {
	list = list[:cap(list)]
	for i := range list {
		list[i] = task(-9, -9, -9)
	}
}

func TestPartitionFunctionsDoNotWriteToArguments(t *testing.T) {
	placements := invalidPlacements()
	for i, set := range partitionSets() {
		for cores := 1; cores <= 5; cores++ {
			placements = append(placements, placement{set, cores, someAssignments(len(set), cores, i)[0]}, placement{set, cores, slices.Repeat([]int{cores - 1}, len(set))})
		}
	}
	for _, p := range placements {
		argument, untouched := p.withSpare(), p.withSpare()
		impl.AssignmentValid(argument.set, argument.cores, argument.assign)
		impl.AssignmentFeasible(argument.set, argument.cores, argument.assign)
		for core := -1; core <= 5; core++ {
			overwriteTasks(impl.CoreTasks(argument.set, argument.cores, argument.assign, core))
		}
		fit, _ := impl.FirstFit(argument.set, argument.cores)
		overwrite(fit)
		found, _ := impl.Partition(argument.set, argument.cores)
		overwrite(found)
		impl.MinCores(argument.set)
		if !argument.equalWithSpare(untouched) {
			t.Fatalf("%v became %v", untouched, argument)
		}
	}
}

func TestPartitionResultsShareNoMemory(t *testing.T) {
	set := firstFitFails()
	fit, _ := impl.FirstFit(set, 3)
	found, _ := impl.Partition(set, 2)
	assign := []int{1, 0, 1, 1}
	tasks := impl.CoreTasks(set, 2, assign, 1)
	otherFit, _ := impl.FirstFit(set, 3)
	overwrite(otherFit)
	otherFound, _ := impl.Partition(set, 2)
	overwrite(otherFound)
	overwriteTasks(impl.CoreTasks(set, 2, assign, 1))
	overwriteTasks(set)
	overwrite(assign)
	if !slices.Equal(fit, []int{0, 0, 1, 2}) || !slices.Equal(found, []int{0, 1, 0, 1}) || !slices.Equal(tasks, implicitSet(10, 4, 6, 5)) {
		t.Fatal("a result shares memory with an argument or another result")
	}
}
