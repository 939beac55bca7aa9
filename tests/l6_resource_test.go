package tests

import (
	"cmp"
	"math"
	"slices"
	"testing"

	"loop.example/deadlinescheduler/impl"
)

func section(start, length, resource int) impl.Section {
	return impl.Section{Start: start, Len: length, Resource: resource}
}

// free is the entry of a task without a critical section.
var free = impl.Section{}

// validSections lists every section that the document allows for a task, built from the bounds and not with SectionsValid.
func validSections(x impl.Task) []impl.Section {
	list := []impl.Section{free}
	for resource := range 3 {
		for start := range x.Cost {
			for end := start + 1; end <= x.Cost; end++ {
				list = append(list, section(start, end-start, resource))
			}
		}
	}
	return list
}

// invalidSections lists sections that are invalid for every task.
func invalidSections() []impl.Section {
	return []impl.Section{
		section(1, 0, 0),
		section(0, 0, 1),
		section(0, 0, 2),
		section(1, 0, 1),
		section(-1, 0, 0),
		section(0, 0, -1),
		section(0, 0, 3),
		section(0, -1, 0),
		section(1, -1, 0),
		section(2, -1, 1),
		section(-1, 1, 0),
		section(-1, 2, 0),
		section(0, 1, -1),
		section(0, 1, 3),
		section(0, 9, 0),
		section(8, 1, 0),
		section(9, -1, 0),
		section(math.MinInt, 1, 0),
		section(math.MaxInt, 1, 0),
		section(math.MaxInt, 0, 0),
		section(0, math.MinInt, 0),
		section(0, math.MaxInt, 0),
		section(1, math.MaxInt, 0),
		section(math.MaxInt, math.MaxInt, 0),
		section(math.MinInt, math.MinInt, 0),
		section(math.MinInt, math.MaxInt, 0),
		section(math.MaxInt, math.MinInt, 0),
		section(0, 1, math.MinInt),
		section(0, 1, math.MaxInt),
	}
}

// noSections has the entry of a task without a critical section for every task.
func noSections(set []impl.Task) []impl.Section {
	return make([]impl.Section, len(set))
}

// wholeSections has every task hold resource 0 during its whole execution.
func wholeSections(set []impl.Task) []impl.Section {
	var list []impl.Section
	for _, x := range set {
		list = append(list, section(0, x.Cost, 0))
	}
	return list
}

func someSections(s *sequence, set []impl.Task, resources int) []impl.Section {
	var list []impl.Section
	for _, x := range set {
		if s.below(5) == 0 {
			list = append(list, free)
			continue
		}
		start := s.below(x.Cost)
		list = append(list, section(start, 1+s.below(x.Cost-start), s.below(resources)))
	}
	return list
}

// sectionLists has valid lists for a set: without sections, with the longest ones, and with some on one, two and three resources.
func sectionLists(s *sequence, set []impl.Task) [][]impl.Section {
	return [][]impl.Section{
		noSections(set),
		wholeSections(set),
		someSections(s, set, 1),
		someSections(s, set, 2),
		someSections(s, set, 3),
	}
}

// sharingSets has sets of short urgent and long less urgent tasks, of which a fixed sequence picks the parameters: many of them stay feasible with critical sections.
func sharingSets() [][]impl.Task {
	s := &sequence{state: 6}
	var sets [][]impl.Task
	for i := range 1200 {
		var set []impl.Task
		for range 2 + i%4 {
			cost := 1 + s.below(1+s.below(8))
			deadline := min(12, cost+s.below(13-cost))
			set = append(set, task(cost, deadline, min(12, deadline+s.below(8))))
		}
		sets = append(sets, set)
	}
	return sets
}

// overloadsBeyondMaxTime has sets whose first overload is later than MaxTime.
func overloadsBeyondMaxTime() [][]impl.Task {
	return [][]impl.Task{
		{task(4, 12, 12), task(6, 11, 11), task(1, 1, 8)},
		{task(4, 7, 12), task(1, 1, 6), task(5, 12, 12), task(1, 11, 11)},
		{task(2, 7, 7), task(3, 6, 6), task(2, 7, 9)},
		{task(1, 8, 9), task(5, 12, 12), task(2, 3, 10), task(3, 11, 11)},
		{task(5, 11, 11), task(3, 11, 12), task(3, 10, 10)},
	}
}

// resourceSets has sets of every kind, the empty one, single tasks and overloaded ones among them.
func resourceSets() [][]impl.Task {
	sets := slices.Concat(sharingSets(), overloadsAtTheEnd(), overloadsBeyondMaxTime())
	for i, set := range demandSets() {
		if len(set) == 0 || i%40 == 0 {
			sets = append(sets, set)
		}
	}
	return append(sets,
		slices.Repeat([]impl.Task{task(2, 9, 12)}, 5),
		[]impl.Task{task(1, 12, 12), task(2, 6, 12), task(3, 12, 12), task(1, 6, 12), task(1, 3, 12)},
	)
}

// byDeadline lists the tasks of a set, the one with the longest relative deadline first.
func byDeadline(set []impl.Task) []int {
	ids := ascending(len(set))
	slices.SortStableFunc(ids, func(a, b int) int { return cmp.Compare(set[b].Deadline, set[a].Deadline) })
	return ids
}

// holderPatterns releases more urgent tasks just when a less urgent one has begun its critical section: all others after one holder, and one after the other down to the shortest deadline.
func holderPatterns(set []impl.Task, sections []impl.Section) [][]impl.Job {
	var all [][]impl.Job
	begin := func(first []int) {
		all = append(all, pattern(set, func(id int) int { return first[id] }, func() int { return 0 }, full))
	}
	for holder, x := range sections {
		if x.Len == 0 {
			continue
		}
		first := slices.Repeat([]int{x.Start + 1}, len(set))
		first[holder] = 0
		begin(first)
	}
	stairs, time := make([]int, len(set)), 0
	for _, id := range byDeadline(set) {
		stairs[id] = time
		time += sections[id].Start + 1
	}
	begin(stairs)
	return all
}

type resourceLoad struct {
	set      []impl.Task
	sections []impl.Section
	jobs     []impl.Job
}

func (l resourceLoad) run() impl.Schedule {
	return impl.RunResources(l.set, l.sections, l.jobs)
}

// complete is for tests that look at the ticks and the finish times one by one: there must be one for each.
func (l resourceLoad) complete(t *testing.T) impl.Schedule {
	t.Helper()
	s := l.run()
	if len(s.Run) != 120 || len(s.Finish) != len(l.jobs) {
		t.Fatalf("RunResources(%v, %v, %v) = %v", l.set, l.sections, l.jobs, s)
	}
	return s
}

// lineLoads has jobs that wait for one that holds a resource: the first in line must not start, and one behind it might, if it were the first.
func lineLoads() []resourceLoad {
	var loads []resourceLoad
	for ceiling := 2; ceiling <= 7; ceiling++ {
		for deadline := ceiling; deadline <= 11; deadline++ {
			set := []impl.Task{task(1, ceiling, 12), task(1, deadline, 12), task(1, ceiling-1, 12), task(8, 12, 12)}
			sections := []impl.Section{section(0, 1, 0), free, free, section(0, 8, 0)}
			for release := range 10 {
				jobs := []impl.Job{jobOf(set, 3, 0, 8), jobOf(set, 1, 1, 1), jobOf(set, 2, release, 1)}
				sortJobs(jobs)
				loads = append(loads, resourceLoad{set, sections, jobs})
			}
		}
	}
	return loads
}

// stairLoads releases one job of each of five tasks, one shortly after the other and with ever shorter deadlines: several of them hold resources at once.
func stairLoads() []resourceLoad {
	s := &sequence{state: 106}
	var loads []resourceLoad
	for range 3000 {
		l := resourceLoad{}
		deadline, release := 12, 0
		for id := range 5 {
			cost := 1 + s.below(min(6, deadline))
			start := s.below(min(2, cost))
			l.set = append(l.set, task(cost, deadline, 12))
			l.sections = append(l.sections, section(start, 1+s.below(cost-start), s.below(3)))
			l.jobs = append(l.jobs, jobOf(l.set, id, release, cost))
			deadline = max(1, deadline-1-s.below(3))
			release += 1 + s.below(2)
		}
		loads = append(loads, l)
	}
	return loads
}

// resourceLoads pairs a part of the sets with sections and release patterns.
func resourceLoads() []resourceLoad {
	s := &sequence{state: 16}
	loads := slices.Concat(lineLoads(), stairLoads())
	for i, set := range resourceSets() {
		if len(set) > 0 && i%4 != 0 {
			continue
		}
		for _, sections := range sectionLists(s, set) {
			for _, jobs := range slices.Concat(patterns(set, i), holderPatterns(set, sections)) {
				loads = append(loads, resourceLoad{set, sections, jobs})
			}
		}
	}
	return loads
}

// ceilingOf looks through the tasks for the shortest relative deadline of a user of the resource.
func ceilingOf(set []impl.Task, sections []impl.Section, resource int) int {
	ceiling := 13
	for i, x := range sections {
		if x.Len > 0 && x.Resource == resource && set[i].Deadline < ceiling {
			ceiling = set[i].Deadline
		}
	}
	return ceiling
}

// blockingOf compares every pair of tasks: one that is due within t, and one that is not but uses the same resource.
func blockingOf(set []impl.Task, sections []impl.Section, t int) int {
	longest := 0
	for i, x := range sections {
		for k, y := range sections {
			if x.Len > 0 && y.Len > 0 && x.Resource == y.Resource && set[i].Deadline <= t && t < set[k].Deadline {
				longest = max(longest, y.Len)
			}
		}
	}
	return longest
}

// passes reports whether a set passes the test with its sections, and whether some interval with blocking has no tick to spare.
func passes(set []impl.Task, sections []impl.Section) (ok, exact bool) {
	for t, work := range dueBy(set) {
		if t == 0 {
			continue
		}
		blocking := blockingOf(set, sections, t)
		if work+blocking > t {
			return false, false
		}
		exact = exact || blocking > 0 && work+blocking == t
	}
	return true, exact
}

func longestSection(sections []impl.Section) int {
	longest := 0
	for _, x := range sections {
		longest = max(longest, x.Len)
	}
	return longest
}

// longer extends the sections of a set as long as it passes the test.
func longer(set []impl.Task, sections []impl.Section) []impl.Section {
	sections = slices.Clone(sections)
	for i := 0; i < len(sections); {
		x := sections[i]
		if x.Len == 0 || x.Start+x.Len == set[i].Cost {
			i++
			continue
		}
		sections[i].Len++
		if ok, _ := passes(set, sections); !ok {
			sections[i] = x
			i++
		}
	}
	return sections
}

// admittedLoads has sets that pass the test with their sections, many of them without a tick to spare.
func admittedLoads() []resourceLoad {
	s := &sequence{state: 96}
	var loads []resourceLoad
	for i, set := range resourceSets() {
		if firstAbove(dueBy(set)) != -1 {
			continue
		}
		for _, sections := range sectionLists(s, set) {
			if ok, _ := passes(set, sections); !ok {
				continue
			}
			for _, sections := range [][]impl.Section{sections, longer(set, sections)} {
				for _, jobs := range slices.Concat(patterns(set, i), holderPatterns(set, sections)) {
					loads = append(loads, resourceLoad{set, sections, jobs})
				}
			}
		}
	}
	return loads
}

// resourceSights counts the cases that the simulations of the tests go through.
type resourceSights struct {
	refused, refusedAtCeiling, passedOver, startedBelowCeiling, nested, refusedByTheLast, notYetHeld, endedInside, endedBefore, ties, refusedTies int
}

// holds reports whether a job that has executed for done ticks is between the first and the last tick of its section.
func holds(job impl.Job, x impl.Section, done int) bool {
	return x.Start < done && done < x.Start+x.Len && done < job.Exec
}

// tickState is what a scan of all jobs finds at the beginning of a tick.
type tickState struct {
	best, begun, ceiling, highest, held int
}

func scanTick(l resourceLoad, now int, done []int) tickState {
	s := tickState{best: -1, begun: -1, ceiling: 13}
	for i, job := range l.jobs {
		if job.Release > now || done[i] == job.Exec {
			continue
		}
		if s.best == -1 || job.Deadline < l.jobs[s.best].Deadline {
			s.best = i
		}
		if done[i] > 0 && (s.begun == -1 || job.Deadline < l.jobs[s.begun].Deadline) {
			s.begun = i
		}
		if x := l.sections[job.TaskID]; holds(job, x, done[i]) {
			s.held++
			ceiling := ceilingOf(l.set, l.sections, x.Resource)
			s.ceiling, s.highest = min(s.ceiling, ceiling), max(s.highest, ceiling)
		}
	}
	return s
}

// resourcesByScan looks through all jobs in every tick, in the words of the document.
func resourcesByScan(l resourceLoad, seen *resourceSights) impl.Schedule {
	s := impl.Schedule{Run: slices.Repeat([]int{-1}, 120), Finish: slices.Repeat([]int{-1}, len(l.jobs))}
	done := make([]int, len(l.jobs))
	for now := range 120 {
		state := scanTick(l, now, done)
		if state.best == -1 {
			continue
		}
		chosen := state.best
		if done[chosen] == 0 && l.set[l.jobs[chosen].TaskID].Deadline >= state.ceiling {
			chosen = state.begun
		}
		seen.note(l, now, done, state, chosen)
		s.Run[now] = chosen
		done[chosen]++
		if done[chosen] == l.jobs[chosen].Exec {
			s.Finish[chosen] = now + 1
		}
	}
	return s
}

func (r *resourceSights) note(l resourceLoad, now int, done []int, state tickState, chosen int) {
	relative := l.set[l.jobs[state.best].TaskID].Deadline
	if state.held > 1 {
		r.nested++
	}
	switch {
	case chosen != state.best:
		r.refused++
		if relative == state.ceiling {
			r.refusedAtCeiling++
		}
		if relative < state.highest {
			r.refusedByTheLast++
		}
	case done[chosen] == 0 && state.held > 0:
		r.startedBelowCeiling++
	}
	for i, job := range l.jobs {
		if job.Release > now || done[i] == job.Exec || i == state.best {
			continue
		}
		if x := l.sections[job.TaskID]; done[i] == x.Start && x.Len > 0 && done[i] > 0 && chosen != i {
			r.notYetHeld++
		}
		tie := job.Deadline == l.jobs[state.best].Deadline
		if tie {
			r.ties++
		}
		if chosen != state.best && done[i] == 0 && l.set[job.TaskID].Deadline < state.ceiling {
			r.passedOver++
			if tie {
				r.refusedTies++
			}
		}
	}
	job := l.jobs[chosen]
	if x := l.sections[job.TaskID]; done[chosen]+1 == job.Exec && x.Len > 0 {
		switch {
		case job.Exec <= x.Start:
			r.endedBefore++
		case job.Exec < x.Start+x.Len:
			r.endedInside++
		}
	}
}

func TestResourceLimits(t *testing.T) {
	if impl.MaxResources != 3 {
		t.Fatal(impl.MaxResources)
	}
}

func TestP62EverySectionWithinTheCostIsValid(t *testing.T) {
	if !impl.SectionsValid(nil, nil) || !impl.SectionsValid([]impl.Task{}, []impl.Section{}) {
		t.Fatal("no sections of the empty set are invalid")
	}
	for _, x := range validTasks() {
		valid := 0
		for start := -2; start <= 10; start++ {
			for length := -2; length <= 10; length++ {
				for resource := -2; resource <= 5; resource++ {
					if impl.SectionsValid([]impl.Task{x}, []impl.Section{section(start, length, resource)}) {
						valid++
					}
				}
			}
		}
		all := validSections(x)
		if valid != len(all) {
			t.Fatalf("%d sections of %v are valid, want %d", valid, x, len(all))
		}
		for _, y := range all {
			if !impl.SectionsValid([]impl.Task{x}, []impl.Section{y}) {
				t.Fatalf("SectionsValid(%v, %v) = false", x, y)
			}
		}
	}
}

func TestP62ListsOfSeveralTasks(t *testing.T) {
	s := &sequence{state: 62}
	for _, set := range resourceSets() {
		for _, sections := range sectionLists(s, set) {
			if !impl.SectionsValid(set, sections) {
				t.Fatalf("SectionsValid(%v, %v) = false", set, sections)
			}
			for i := range sections {
				for _, bad := range invalidSections() {
					other := slices.Clone(sections)
					other[i] = bad
					if impl.SectionsValid(set, other) {
						t.Fatalf("SectionsValid(%v, %v) = true", set, other)
					}
				}
			}
		}
	}
}

// shorter is a section that lasts one tick less; the entry of a task without a section is the zero value.
func shorter(x impl.Section) impl.Section {
	if x.Len == 1 {
		return free
	}
	x.Len--
	return x
}

func TestP62ShorterSectionsStayValidAndLongerOnesDoNot(t *testing.T) {
	s := &sequence{state: 162}
	for _, set := range resourceSets() {
		for _, sections := range sectionLists(s, set) {
			for i, x := range sections {
				if x.Len == 0 {
					continue
				}
				other := slices.Clone(sections)
				other[i] = shorter(x)
				if !impl.SectionsValid(set, other) {
					t.Fatalf("SectionsValid(%v, %v) = false", set, other)
				}
				// The last tick of the execution may belong to the section, the one after it may not.
				other[i].Start, other[i].Resource = x.Start, x.Resource
				other[i].Len = set[i].Cost - x.Start
				if !impl.SectionsValid(set, other) {
					t.Fatalf("SectionsValid(%v, %v) = false", set, other)
				}
				other[i].Len++
				if impl.SectionsValid(set, other) {
					t.Fatalf("SectionsValid(%v, %v) = true", set, other)
				}
				other[i].Len--
				other[i].Start++
				if impl.SectionsValid(set, other) {
					t.Fatalf("SectionsValid(%v, %v) = true", set, other)
				}
			}
		}
	}
}

func TestP62Examples(t *testing.T) {
	set := []impl.Task{task(1, 3, 12), task(4, 10, 12)}
	for _, c := range []struct {
		sections []impl.Section
		want     bool
	}{
		{[]impl.Section{free, free}, true},
		{[]impl.Section{section(0, 1, 0), section(1, 2, 0)}, true},
		{[]impl.Section{free, section(0, 4, 2)}, true},
		{[]impl.Section{free, section(3, 1, 2)}, true},
		{[]impl.Section{free, section(0, 1, 1)}, true},
		{[]impl.Section{free, section(4, 0, 0)}, false},
		{[]impl.Section{free, section(4, 1, 0)}, false},
		{[]impl.Section{free, section(0, 5, 0)}, false},
		{[]impl.Section{free, section(2, 3, 0)}, false},
		{[]impl.Section{free, section(2, 2, 3)}, false},
		{[]impl.Section{free, section(2, 2, -1)}, false},
		{[]impl.Section{section(1, 0, 0), free}, false},
		{[]impl.Section{section(0, 0, 1), free}, false},
		// The limit is the cost of the task itself.
		{[]impl.Section{section(1, 2, 0), section(0, 1, 0)}, false},
		{[]impl.Section{section(0, 1, 0)}, false},
		{[]impl.Section{section(0, 1, 0), free, free}, false},
		{nil, false},
	} {
		if got := impl.SectionsValid(set, c.sections); got != c.want {
			t.Fatalf("SectionsValid(%v) = %v", c.sections, got)
		}
	}
}

// invalidResourceArguments has invalid sets, invalid sections, and lists of another length than that of the set.
func invalidResourceArguments() []resourceLoad {
	var list []resourceLoad
	for _, set := range invalidSets() {
		list = append(list, resourceLoad{set, noSections(set), nil}, resourceLoad{set, nil, nil}, resourceLoad{set, slices.Repeat([]impl.Section{section(0, 1, 0)}, len(set)), nil})
	}
	set := pairSet()
	for _, bad := range invalidSections() {
		list = append(list,
			resourceLoad{set, []impl.Section{bad, free}, nil},
			resourceLoad{set, []impl.Section{section(0, 1, 0), bad}, nil},
			resourceLoad{nil, []impl.Section{bad}, nil},
		)
	}
	for _, n := range []int{0, 1, 3, 4, 5, 6, 100} {
		list = append(list, resourceLoad{set, make([]impl.Section, n), nil}, resourceLoad{set, slices.Repeat([]impl.Section{section(0, 1, 0)}, n), nil})
	}
	for _, n := range []int{1, 5, 100} {
		list = append(list, resourceLoad{nil, make([]impl.Section, n), nil}, resourceLoad{[]impl.Task{}, slices.Repeat([]impl.Section{section(0, 1, 0)}, n), nil})
	}
	return list
}

func TestResourceFunctionsOfInvalidArguments(t *testing.T) {
	for _, l := range invalidResourceArguments() {
		if impl.SectionsValid(l.set, l.sections) {
			t.Fatalf("SectionsValid(%v, %v) = true", l.set, l.sections)
		}
		if c := impl.Ceilings(l.set, l.sections); len(c) != 0 {
			t.Fatalf("Ceilings(%v, %v) = %v", l.set, l.sections, c)
		}
		for _, length := range []int{math.MinInt, -1, 0, 1, 3, 12, 120, 121, math.MaxInt} {
			if b := impl.Blocking(l.set, l.sections, length); b != -1 {
				t.Fatalf("Blocking(%v, %v, %d) = %d", l.set, l.sections, length, b)
			}
		}
		if impl.ResourcesFeasible(l.set, l.sections) {
			t.Fatalf("ResourcesFeasible(%v, %v) = true", l.set, l.sections)
		}
		for _, jobs := range [][]impl.Job{nil, {{TaskID: 0, Release: 0, Deadline: 2, Exec: 1}}, synchronousTo(pairSet(), 12)} {
			if r := impl.RunResources(l.set, l.sections, jobs); len(r.Run) != 0 || len(r.Finish) != 0 {
				t.Fatalf("RunResources(%v, %v, %v) = %v", l.set, l.sections, jobs, r)
			}
		}
	}
}

func TestRunResourcesOfIllegalPatterns(t *testing.T) {
	set := pairSet()
	check := func(set []impl.Task, sections []impl.Section, jobs []impl.Job) {
		t.Helper()
		if r := impl.RunResources(set, sections, jobs); len(r.Run) != 0 || len(r.Finish) != 0 {
			t.Fatalf("RunResources(%v, %v, %v) = %v", set, sections, jobs, r)
		}
	}
	for _, jobs := range illegalPatterns() {
		check(set, noSections(set), jobs)
		check(set, wholeSections(set), jobs)
		check(nil, nil, jobs)
	}
	illegal := 0
	for _, jobs := range variants(synchronousTo(set, 24)) {
		if !isLegal(set, jobs) {
			illegal++
			check(set, wholeSections(set), jobs)
		}
	}
	many := []impl.Task{task(1, 1, 1)}
	jobs := pattern(many, func(int) int { return 0 }, func() int { return 0 }, full)
	check(many, wholeSections(many), append(jobs, jobOf(many, 0, 60, 1)))
	if illegal < 100 {
		t.Fatal(illegal)
	}
}

func TestP63ACeilingIsTheMostUrgentUser(t *testing.T) {
	s := &sequence{state: 63}
	unused, shared := 0, 0
	for _, set := range resourceSets() {
		for _, sections := range sectionLists(s, set) {
			ceilings := impl.Ceilings(set, sections)
			if len(ceilings) != 3 {
				t.Fatalf("Ceilings(%v, %v) = %v", set, sections, ceilings)
			}
			for resource, ceiling := range ceilings {
				var users []int
				for i, x := range sections {
					if x.Len > 0 && x.Resource == resource {
						users = append(users, set[i].Deadline)
					}
				}
				want := 13
				switch {
				case len(users) == 0:
					unused++
				default:
					want = slices.Min(users)
					shared += len(users) - 1
				}
				if ceiling != want {
					t.Fatalf("Ceilings(%v, %v) = %v, but resource %d has the users %v", set, sections, ceilings, resource, users)
				}
			}
		}
	}
	if min(unused, shared) < 1000 {
		t.Fatal(unused, shared)
	}
}

func TestP63Examples(t *testing.T) {
	set := []impl.Task{task(1, 3, 12), task(2, 12, 12), task(4, 10, 12), task(1, 1, 12)}
	for _, c := range []struct {
		set      []impl.Task
		sections []impl.Section
		want     []int
	}{
		{nil, nil, []int{13, 13, 13}},
		{set, noSections(set), []int{13, 13, 13}},
		{set, []impl.Section{section(0, 1, 0), free, section(1, 2, 0), free}, []int{3, 13, 13}},
		{set, []impl.Section{section(0, 1, 2), free, section(1, 2, 1), free}, []int{13, 10, 3}},
		{set, []impl.Section{free, section(0, 2, 0), section(1, 2, 2), section(0, 1, 2)}, []int{12, 13, 1}},
		{set, wholeSections(set), []int{1, 13, 13}},
		// The ceiling follows from the relative deadline and not from the period.
		{[]impl.Task{task(1, 7, 8), task(1, 6, 9)}, []impl.Section{section(0, 1, 1), section(0, 1, 1)}, []int{13, 6, 13}},
	} {
		if got := impl.Ceilings(c.set, c.sections); !slices.Equal(got, c.want) {
			t.Fatalf("Ceilings(%v, %v) = %v, want %v", c.set, c.sections, got, c.want)
		}
	}
}

func longestDeadline(set []impl.Task) int {
	longest := 0
	for _, x := range set {
		longest = max(longest, x.Deadline)
	}
	return longest
}

// sharedWithin reports whether a task with a deadline within the interval uses a resource that some other one uses, too.
func sharedWithin(set []impl.Task, sections []impl.Section, t int) bool {
	for i, x := range sections {
		for k, y := range sections {
			if i != k && x.Len > 0 && y.Len > 0 && x.Resource == y.Resource && set[i].Deadline <= t {
				return true
			}
		}
	}
	return false
}

func TestP64OnlyLessUrgentTasksBlock(t *testing.T) {
	s := &sequence{state: 64}
	blocked, unshared := 0, 0
	for _, set := range resourceSets() {
		for _, sections := range sectionLists(s, set) {
			for length := range 121 {
				b := impl.Blocking(set, sections, length)
				if b != blockingOf(set, sections, length) {
					t.Fatalf("Blocking(%v, %v, %d) = %d, want %d", set, sections, length, b, blockingOf(set, sections, length))
				}
				if b < 0 || b > longestSection(sections) || length >= longestDeadline(set) && b != 0 {
					t.Fatalf("Blocking(%v, %v, %d) = %d", set, sections, length, b)
				}
				if !sharedWithin(set, sections, length) {
					unshared++
					if b != 0 {
						t.Fatalf("Blocking(%v, %v, %d) = %d, but no resource is shared", set, sections, length, b)
					}
				}
				if b > 0 {
					blocked++
				}
			}
		}
	}
	if min(blocked, unshared) < 1000 {
		t.Fatal(blocked, unshared)
	}
}

func TestP64Examples(t *testing.T) {
	pair := []impl.Task{task(1, 3, 12), task(4, 10, 12)}
	four := []impl.Task{task(1, 3, 12), task(1, 5, 12), task(4, 10, 12), task(6, 12, 12)}
	for _, c := range []struct {
		set      []impl.Task
		sections []impl.Section
		want     []int // from t = 0 on, then 0
	}{
		{nil, nil, nil},
		{pair, noSections(pair), nil},
		{pair, []impl.Section{section(0, 1, 0), section(1, 2, 0)}, []int{0, 0, 0, 2, 2, 2, 2, 2, 2, 2}},
		{pair, []impl.Section{section(0, 1, 0), section(1, 2, 1)}, nil},
		{pair, []impl.Section{free, section(0, 4, 0)}, nil},
		{pair, []impl.Section{section(0, 1, 0), free}, nil},
		{four, []impl.Section{section(0, 1, 0), section(0, 1, 1), section(0, 2, 0), section(1, 5, 1)}, []int{0, 0, 0, 2, 2, 5, 5, 5, 5, 5, 5, 5}},
		{four, []impl.Section{section(0, 1, 0), section(0, 1, 1), section(0, 4, 0), section(1, 2, 1)}, []int{0, 0, 0, 4, 4, 4, 4, 4, 4, 4, 2, 2}},
		{four, wholeSections(four), []int{0, 0, 0, 6, 6, 6, 6, 6, 6, 6, 6, 6}},
		// A task without a section does not block, though the resource 0 of its entry is shared.
		{four, []impl.Section{section(0, 1, 0), section(0, 1, 0), free, free}, []int{0, 0, 0, 1, 1}},
		// Tasks with one relative deadline do not block each other.
		{slices.Repeat([]impl.Task{task(2, 9, 12)}, 3), slices.Repeat([]impl.Section{section(0, 2, 1)}, 3), nil},
		{[]impl.Task{task(1, 1, 12), task(8, 12, 12)}, []impl.Section{section(0, 1, 2), section(0, 8, 2)}, []int{0, 8, 8, 8, 8, 8, 8, 8, 8, 8, 8, 8}},
	} {
		for length := range 121 {
			want := 0
			if length < len(c.want) {
				want = c.want[length]
			}
			if got := impl.Blocking(c.set, c.sections, length); got != want {
				t.Fatalf("Blocking(%v, %v, %d) = %d, want %d", c.set, c.sections, length, got, want)
			}
		}
		for _, length := range []int{-1, -12, 121, 1000, math.MinInt, math.MaxInt} {
			if got := impl.Blocking(c.set, c.sections, length); got != -1 {
				t.Fatalf("Blocking(%v, %v, %d) = %d", c.set, c.sections, length, got)
			}
		}
	}
}

func TestP65FeasibleIsDemandAndBlockingWithinTheLength(t *testing.T) {
	s := &sequence{state: 65}
	ok, exact, blocked, lateOverload := 0, 0, 0, 0
	for _, set := range resourceSets() {
		overload := firstAbove(dueBy(set))
		if overload > 120 {
			lateOverload++
		}
		for _, sections := range sectionLists(s, set) {
			want, tight := passes(set, sections)
			if got := impl.ResourcesFeasible(set, sections); got != want {
				t.Fatalf("ResourcesFeasible(%v, %v) = %v", set, sections, got)
			}
			switch {
			case tight:
				exact++
			case want:
				ok++
			case overload == -1:
				blocked++
			}
		}
	}
	if min(ok, exact, blocked) < 100 || lateOverload < 5 {
		t.Fatal(ok, exact, blocked, lateOverload)
	}
}

func TestP65SharingCostsSchedulability(t *testing.T) {
	s := &sequence{state: 165}
	harder := 0
	for _, set := range resourceSets() {
		edf := impl.EdfFeasible(set)
		if impl.ResourcesFeasible(set, noSections(set)) != edf {
			t.Fatalf("ResourcesFeasible(%v) without sections = %v", set, !edf)
		}
		for _, sections := range sectionLists(s, set) {
			if !impl.ResourcesFeasible(set, sections) {
				if edf {
					harder++
				}
				continue
			}
			if !edf {
				t.Fatalf("%v passes the test with %v only", set, sections)
			}
			for i := range sections {
				other := slices.Clone(sections)
				other[i] = free
				if !impl.ResourcesFeasible(set, other) {
					t.Fatalf("%v passes the test with %v, but not with %v", set, sections, other)
				}
			}
		}
	}
	if harder < 100 {
		t.Fatal(harder)
	}
}

func TestP65Examples(t *testing.T) {
	pair := []impl.Task{task(1, 3, 12), task(4, 10, 12)}
	full := []impl.Task{task(2, 4, 4), task(3, 6, 6)}
	for _, c := range []struct {
		set      []impl.Task
		sections []impl.Section
		want     bool
	}{
		{nil, nil, true},
		{[]impl.Task{}, []impl.Section{}, true},
		{pair, noSections(pair), true},
		// At t = 3 the demand of 1 and the blocking term of 2 are exactly 3.
		{pair, []impl.Section{section(0, 1, 0), section(1, 2, 0)}, true},
		{pair, []impl.Section{section(0, 1, 0), section(1, 3, 0)}, false},
		{pair, []impl.Section{section(0, 1, 0), section(1, 3, 1)}, true},
		{pair, []impl.Section{free, section(0, 4, 0)}, true},
		{full, noSections(full), true},
		{full, []impl.Section{section(0, 2, 0), section(0, 2, 0)}, true},
		{full, []impl.Section{section(0, 2, 0), section(0, 3, 0)}, false},
		// One task alone shares nothing.
		{[]impl.Task{task(8, 8, 8)}, []impl.Section{section(0, 8, 0)}, true},
		// The interval of length 1 counts.
		{[]impl.Task{task(1, 1, 12), task(1, 2, 12)}, []impl.Section{section(0, 1, 0), section(0, 1, 0)}, false},
		{[]impl.Task{task(1, 1, 12), task(1, 2, 12)}, []impl.Section{section(0, 1, 0), free}, true},
		// The tasks alone are too much, only at the end of the hyperperiod or beyond MaxTime.
		{[]impl.Task{task(1, 1, 1), task(1, 12, 12)}, noSections(pair), false},
		{[]impl.Task{task(1, 2, 2), task(6, 11, 11)}, []impl.Section{free, section(0, 6, 0)}, false},
		{[]impl.Task{task(4, 12, 12), task(6, 11, 11), task(1, 1, 8)}, make([]impl.Section, 3), false},
		{[]impl.Task{task(5, 11, 11), task(3, 11, 12), task(3, 10, 10)}, make([]impl.Section, 3), false},
	} {
		if got := impl.ResourcesFeasible(c.set, c.sections); got != c.want {
			t.Fatalf("ResourcesFeasible(%v, %v) = %v", c.set, c.sections, got)
		}
	}
}

func TestRunResourcesFollowsTheDocument(t *testing.T) {
	var seen resourceSights
	for _, l := range resourceLoads() {
		if got, want := l.run(), resourcesByScan(l, &seen); !equalSchedules(got, want) {
			t.Fatalf("RunResources(%v, %v, %v) = %v, want %v", l.set, l.sections, l.jobs, got, want)
		}
	}
	if min(seen.refused, seen.refusedAtCeiling, seen.passedOver, seen.startedBelowCeiling, seen.nested, seen.refusedByTheLast, seen.notYetHeld, seen.endedInside, seen.endedBefore, seen.ties) < 100 || seen.refusedTies < 20 {
		t.Fatal(seen)
	}
}

type resourceExample struct {
	set      []impl.Task
	sections []impl.Section
	jobs     []impl.Job
	start    int
	ticks    []int
	finish   []int
}

func checkResourceExamples(t *testing.T, list []resourceExample) {
	t.Helper()
	for _, c := range list {
		run := slices.Repeat([]int{-1}, 120)
		copy(run[c.start:], c.ticks)
		want := impl.Schedule{Run: run, Finish: c.finish}
		if got := impl.RunResources(c.set, c.sections, c.jobs); !equalSchedules(got, want) {
			t.Fatalf("RunResources(%v, %v, %v) = %v, want %v", c.set, c.sections, c.jobs, got, want)
		}
	}
}

// urgentAndLong has a short urgent task, which needs resource 0 all the time, and a long one.
func urgentAndLong() []impl.Task {
	return []impl.Task{task(1, 3, 12), task(4, 10, 12)}
}

func TestTheTicksOfASection(t *testing.T) {
	set := urgentAndLong()
	released := func(at int) []impl.Job {
		return []impl.Job{jobOf(set, 1, 0, 4), jobOf(set, 0, at, 1)}
	}
	with := func(x impl.Section) []impl.Section {
		return []impl.Section{section(0, 1, 0), x}
	}
	checkResourceExamples(t, []resourceExample{
		// A section that begins at tick 0.
		{set, with(section(0, 3, 0)), released(1), 0, []int{0, 0, 0, 1, 0}, []int{5, 4}},
		{set, with(section(0, 1, 0)), released(1), 0, []int{0, 1, 0, 0, 0}, []int{5, 2}},
		{set, with(section(0, 2, 0)), released(1), 0, []int{0, 0, 1, 0, 0}, []int{5, 3}},
		// Before its first tick the resource is not held, after its last one no longer.
		{set, with(section(1, 2, 0)), released(1), 0, []int{0, 1, 0, 0, 0}, []int{5, 2}},
		{set, with(section(1, 2, 0)), released(2), 0, []int{0, 0, 0, 1, 0}, []int{5, 4}},
		{set, with(section(1, 2, 0)), released(3), 0, []int{0, 0, 0, 1, 0}, []int{5, 4}},
		// A section that ends with the execution of the task.
		{set, with(section(2, 2, 0)), released(1), 0, []int{0, 1, 0, 0, 0}, []int{5, 2}},
		{set, with(section(2, 2, 0)), released(2), 0, []int{0, 0, 1, 0, 0}, []int{5, 3}},
		{set, with(section(2, 2, 0)), released(3), 0, []int{0, 0, 0, 0, 1}, []int{4, 5}},
		{set, with(section(0, 4, 0)), released(1), 0, []int{0, 0, 0, 0, 1}, []int{4, 5}},
		// Without a section of the long task, or on another resource, nothing is refused.
		{set, with(free), released(2), 0, []int{0, 0, 1, 0, 0}, []int{5, 3}},
		{set, with(section(0, 4, 1)), released(2), 0, []int{0, 0, 1, 0, 0}, []int{5, 3}},
		{set, []impl.Section{free, section(0, 4, 0)}, released(2), 0, []int{0, 0, 1, 0, 0}, []int{5, 3}},
	})
}

func TestAJobThatFinishesInsideItsSection(t *testing.T) {
	set := []impl.Task{task(1, 3, 12), task(6, 10, 12)}
	both := []impl.Section{section(0, 1, 0), section(1, 4, 0)}
	after := func(exec, at int) []impl.Job {
		return []impl.Job{jobOf(set, 1, 0, exec), jobOf(set, 0, at, 1)}
	}
	three := []impl.Task{task(1, 2, 12), task(4, 6, 12), task(6, 12, 12)}
	nested := []impl.Section{section(0, 1, 1), section(0, 4, 1), section(0, 6, 0)}
	checkResourceExamples(t, []resourceExample{
		{set, both, after(1, 1), 0, []int{0, 1}, []int{1, 2}},
		{set, both, after(2, 1), 0, []int{0, 1, 0}, []int{3, 2}},
		{set, both, after(2, 2), 0, []int{0, 0, 1}, []int{2, 3}},
		{set, both, after(3, 2), 0, []int{0, 0, 0, 1}, []int{3, 4}},
		{set, both, after(4, 2), 0, []int{0, 0, 0, 0, 1}, []int{4, 5}},
		{set, both, after(5, 2), 0, []int{0, 0, 0, 0, 0, 1}, []int{5, 6}},
		{set, both, after(6, 2), 0, []int{0, 0, 0, 0, 0, 1, 0}, []int{7, 6}},
		// Its resource is free again long afterwards, too.
		{set, both, after(3, 50), 0, append([]int{0, 0, 0}, append(slices.Repeat([]int{-1}, 47), 1)...), []int{3, 51}},
		// The resource below it stays held, which lets the urgent task start.
		{three, nested, []impl.Job{jobOf(three, 2, 0, 5), jobOf(three, 1, 1, 2), jobOf(three, 0, 2, 1)}, 0, []int{0, 1, 1, 2, 0, 0, 0, 0}, []int{8, 3, 4}},
	})
}

func TestAJobMustNotStartYet(t *testing.T) {
	// A task whose relative deadline equals the ceiling does not start, whether it needs the resource or not; one that is more urgent does.
	set := []impl.Task{task(1, 3, 12), task(1, 3, 12), task(1, 2, 12), task(1, 4, 12), task(4, 10, 12)}
	sections := []impl.Section{section(0, 1, 0), free, free, free, section(0, 3, 0)}
	with := func(id int) []impl.Job {
		return []impl.Job{jobOf(set, 4, 0, 4), jobOf(set, id, 1, 1)}
	}
	// Of several jobs only the first may start: a later deadline does not, however short the relative one is.
	line := []impl.Task{task(1, 5, 12), task(1, 8, 12), task(1, 4, 12), task(8, 12, 12)}
	held := []impl.Section{section(0, 1, 0), free, free, section(0, 8, 0)}
	checkResourceExamples(t, []resourceExample{
		{set, sections, with(0), 0, []int{0, 0, 0, 1, 0}, []int{5, 4}},
		{set, sections, with(1), 0, []int{0, 0, 0, 1, 0}, []int{5, 4}},
		{set, sections, with(2), 0, []int{0, 1, 0, 0, 0}, []int{5, 2}},
		{set, sections, with(3), 0, []int{0, 0, 0, 1, 0}, []int{5, 4}},
		{line, held, []impl.Job{jobOf(line, 3, 0, 8), jobOf(line, 1, 1, 1), jobOf(line, 2, 6, 1)}, 0, []int{0, 0, 0, 0, 0, 0, 0, 0, 1, 2}, []int{8, 9, 10}},
		{line, held, []impl.Job{jobOf(line, 3, 0, 8), jobOf(line, 1, 1, 1), jobOf(line, 2, 4, 1)}, 0, []int{0, 0, 0, 0, 2, 0, 0, 0, 0, 1}, []int{9, 10, 5}},
		// A job that is refused is overtaken by one with a later release and an earlier deadline.
		{set, sections, []impl.Job{jobOf(set, 4, 0, 4), jobOf(set, 3, 1, 1), jobOf(set, 2, 2, 1)}, 0, []int{0, 0, 2, 0, 1, 0}, []int{6, 5, 3}},
		// The end of the simulation.
		{set, sections, []impl.Job{jobOf(set, 4, 118, 4), jobOf(set, 0, 119, 1)}, 118, []int{0, 0}, []int{-1, -1}},
		{set, sections, []impl.Job{jobOf(set, 4, 116, 4), jobOf(set, 0, 117, 1)}, 116, []int{0, 0, 0, 1}, []int{-1, 120}},
	})
}

func TestNestedResources(t *testing.T) {
	// The long task holds resource 0 with the ceiling 8, the next one resource 1 with the ceiling 3.
	set := []impl.Task{task(6, 12, 12), task(4, 7, 12), task(1, 8, 12), task(1, 4, 12), task(1, 3, 12)}
	sections := []impl.Section{section(1, 4, 0), section(1, 2, 1), section(0, 1, 0), free, section(0, 1, 1)}
	checkResourceExamples(t, []resourceExample{
		{set, sections, []impl.Job{jobOf(set, 0, 0, 6), jobOf(set, 1, 2, 4), jobOf(set, 2, 3, 1), jobOf(set, 3, 4, 1)}, 0, []int{0, 0, 1, 1, 1, 3, 1, 0, 0, 0, 2, 0}, []int{12, 7, 11, 6}},
		{set, sections, []impl.Job{jobOf(set, 0, 0, 6), jobOf(set, 1, 2, 4), jobOf(set, 4, 4, 1)}, 0, []int{0, 0, 1, 1, 1, 2, 1, 0, 0, 0, 0}, []int{11, 7, 6}},
		{set, sections, []impl.Job{jobOf(set, 0, 0, 6), jobOf(set, 1, 2, 4), jobOf(set, 4, 3, 1)}, 0, []int{0, 0, 1, 2, 1, 1, 1, 0, 0, 0, 0}, []int{11, 7, 4}},
	})
}

func TestResourceTies(t *testing.T) {
	twins := []impl.Task{task(2, 6, 12), task(2, 6, 12)}
	pair := []impl.Task{task(1, 3, 12), task(4, 5, 12)}
	both := []impl.Section{section(0, 2, 0), section(0, 2, 0)}
	// At time 5 the jobs 1 and 2 are due at 9: the first one must not start, though the second one might.
	line := []impl.Task{task(1, 5, 12), task(1, 8, 12), task(1, 4, 12), task(6, 12, 12)}
	held := []impl.Section{section(0, 1, 0), free, free, section(0, 6, 0)}
	checkResourceExamples(t, []resourceExample{
		{twins, noSections(twins), []impl.Job{jobOf(twins, 0, 0, 2), jobOf(twins, 1, 0, 2)}, 0, []int{0, 0, 1, 1}, []int{2, 4}},
		{twins, both, []impl.Job{jobOf(twins, 0, 0, 2), jobOf(twins, 1, 0, 2)}, 0, []int{0, 0, 1, 1}, []int{2, 4}},
		{twins, both, []impl.Job{jobOf(twins, 1, 3, 2), jobOf(twins, 0, 4, 2)}, 3, []int{0, 0, 1, 1}, []int{5, 7}},
		// A started job goes on if a later one is due at the same time.
		{pair, noSections(pair), []impl.Job{jobOf(pair, 1, 0, 4), jobOf(pair, 0, 2, 1)}, 0, []int{0, 0, 0, 0, 1}, []int{4, 5}},
		{pair, noSections(pair), []impl.Job{jobOf(pair, 1, 0, 4), jobOf(pair, 0, 1, 1)}, 0, []int{0, 1, 0, 0, 0}, []int{5, 2}},
		{line, held, []impl.Job{jobOf(line, 3, 0, 6), jobOf(line, 1, 1, 1), jobOf(line, 2, 5, 1)}, 0, []int{0, 0, 0, 0, 0, 0, 1, 2}, []int{6, 7, 8}},
	})
}

func TestResourcesOfTheEmptySet(t *testing.T) {
	set := urgentAndLong()
	checkResourceExamples(t, []resourceExample{
		{nil, nil, nil, 0, nil, nil},
		{[]impl.Task{}, []impl.Section{}, []impl.Job{}, 0, nil, nil},
		{set, noSections(set), nil, 0, nil, nil},
		{set, wholeSections(set), []impl.Job{}, 0, nil, nil},
		{set, wholeSections(set), []impl.Job{jobOf(set, 0, 119, 1)}, 119, []int{0}, []int{120}},
	})
}

func TestP133TheTaskInBetweenDoesNotStart(t *testing.T) {
	set := []impl.Task{task(1, 4, 12), task(2, 7, 12), task(5, 12, 12)}
	sections := []impl.Section{section(0, 1, 0), free, section(1, 3, 0)}
	long, between := jobOf(set, 2, 0, 5), jobOf(set, 1, 2, 2)
	if !impl.ResourcesFeasible(set, sections) {
		t.Fatal("the set does not pass the test")
	}
	checkResourceExamples(t, []resourceExample{
		// The resource is held from time 1 to time 4.
		{set, sections, []impl.Job{long, between, jobOf(set, 0, 3, 1)}, 0, []int{0, 0, 0, 0, 2, 1, 1, 0}, []int{8, 7, 5}},
		{set, sections, []impl.Job{long, jobOf(set, 0, 2, 1), between}, 0, []int{0, 0, 0, 0, 1, 2, 2, 0}, []int{8, 5, 7}},
		{set, sections, []impl.Job{long, between}, 0, []int{0, 0, 0, 0, 1, 1, 0}, []int{7, 6}},
		// It starts before the resource is held, and after that.
		{set, sections, []impl.Job{long, jobOf(set, 1, 1, 2)}, 0, []int{0, 1, 1, 0, 0, 0, 0}, []int{7, 3}},
		{set, sections, []impl.Job{long, jobOf(set, 1, 4, 2)}, 0, []int{0, 0, 0, 0, 1, 1, 0}, []int{7, 6}},
		// If the urgent task does not need the resource, the task in between starts at once.
		{set, []impl.Section{free, free, section(1, 3, 0)}, []impl.Job{long, between, jobOf(set, 0, 3, 1)}, 0, []int{0, 0, 1, 2, 1, 0, 0, 0}, []int{8, 5, 4}},
	})
}

func TestP133EveryTaskInBetween(t *testing.T) {
	// Whatever the parameters: while the resource is held, the task in between does not start.
	refused := 0
	for length := 1; length <= 6; length++ {
		for start := range 8 - length {
			for release := range 12 {
				set := []impl.Task{task(1, 2, 12), task(2, 6, 12), task(8, 12, 12)}
				sections := []impl.Section{section(0, 1, 1), free, section(start, length, 1)}
				jobs := []impl.Job{jobOf(set, 2, 0, 8), jobOf(set, 1, release, 2)}
				if release == 0 {
					slices.Reverse(jobs)
				}
				l := resourceLoad{set, sections, jobs}
				s := l.complete(t)
				done := make([]int, 2)
				for now, i := range s.Run[:20] {
					long := slices.IndexFunc(jobs, func(j impl.Job) bool { return j.TaskID == 2 })
					if i == 1-long && done[i] == 0 && holds(jobs[long], sections[2], done[long]) {
						t.Fatalf("RunResources(%v, %v, %v) starts job %d at %d", set, sections, jobs, i, now)
					}
					if i == long && jobs[1-long].Release <= now && done[1-long] == 0 && jobs[1-long].Deadline < 12 {
						refused++
					}
					if i != -1 {
						done[i]++
					}
				}
			}
		}
	}
	if refused < 20 {
		t.Fatal(refused)
	}
}

func TestP9AdmittedTasksMeetTheirDeadlines(t *testing.T) {
	runs, blocked, tight := 0, 0, 0
	for _, l := range admittedLoads() {
		if !impl.ResourcesFeasible(l.set, l.sections) {
			t.Fatalf("ResourcesFeasible(%v, %v) = false", l.set, l.sections)
		}
		s := l.complete(t)
		if len(impl.Missed(l.jobs, s)) != 0 || len(missedBy(l.jobs, s.Run)) != 0 {
			t.Fatalf("RunResources(%v, %v, %v) misses %v", l.set, l.sections, l.jobs, impl.Missed(l.jobs, s))
		}
		runs++
		if !slices.Equal(s.Run, edfByScan(l.jobs).Run) {
			blocked++
		}
		for i, job := range l.jobs {
			if s.Finish[i] == job.Deadline {
				tight++
			}
		}
	}
	if min(runs, blocked, tight) < 1000 {
		t.Fatal(runs, blocked, tight)
	}
}

func TestP9SectionsThatAreTooLongDoMakeJobsLate(t *testing.T) {
	// Otherwise the patterns of the tests would be too mild to tell.
	late := 0
	for _, l := range resourceLoads() {
		if impl.EdfFeasible(l.set) && len(impl.Missed(l.jobs, l.run())) > 0 {
			late++
			if impl.ResourcesFeasible(l.set, l.sections) {
				t.Fatalf("RunResources(%v, %v, %v) misses a deadline", l.set, l.sections, l.jobs)
			}
		}
	}
	if late < 100 {
		t.Fatal(late)
	}
}

// checkTicks passes what the jobs have executed before every tick to a function, and then the job that runs.
func checkTicks(t *testing.T, l resourceLoad, check func(now, running int, done []int)) {
	t.Helper()
	s := l.complete(t)
	done := make([]int, len(l.jobs))
	for now, i := range s.Run {
		if i < -1 || i >= len(l.jobs) {
			t.Fatalf("RunResources(%v, %v, %v) runs job %d at %d", l.set, l.sections, l.jobs, i, now)
		}
		check(now, i, done)
		if i != -1 {
			done[i]++
		}
	}
}

func TestP10SectionsOnOneResourceExcludeEachOther(t *testing.T) {
	inside, competing := 0, 0
	for _, l := range resourceLoads() {
		checkTicks(t, l, func(now, running int, done []int) {
			owners := slices.Repeat([]int{-1}, 3)
			for i, job := range l.jobs {
				x := l.sections[job.TaskID]
				entered := i == running && x.Start <= done[i] && done[i] < x.Start+x.Len
				if !entered && !holds(job, x, done[i]) {
					continue
				}
				inside++
				if owners[x.Resource] != -1 {
					t.Fatalf("RunResources(%v, %v, %v): the jobs %d and %d are inside their sections at %d", l.set, l.sections, l.jobs, owners[x.Resource], i, now)
				}
				owners[x.Resource] = i
			}
			for i, job := range l.jobs {
				x := l.sections[job.TaskID]
				if job.Release <= now && done[i] < job.Exec && x.Len > 0 && owners[x.Resource] != -1 && owners[x.Resource] != i {
					competing++
				}
			}
		})
	}
	if min(inside, competing) < 1000 {
		t.Fatal(inside, competing)
	}
}

func TestP10EarliestDeadlineFirstAloneDoesNotExclude(t *testing.T) {
	// Otherwise the sections of the tests would hardly ever meet.
	violated := 0
	for _, l := range resourceLoads() {
		done := make([]int, len(l.jobs))
		for _, running := range edfByScan(l.jobs).Run {
			if running == -1 {
				continue
			}
			own := l.sections[l.jobs[running].TaskID]
			for i, job := range l.jobs {
				x := l.sections[job.TaskID]
				if i != running && holds(job, x, done[i]) && x.Resource == own.Resource && own.Start <= done[running] && done[running] < own.Start+own.Len {
					violated++
				}
			}
			done[running]++
		}
	}
	if violated < 1000 {
		t.Fatal(violated)
	}
}

func TestP11AStartedJobIsNeverBlocked(t *testing.T) {
	started, preempted := 0, 0
	for _, l := range resourceLoads() {
		checkTicks(t, l, func(now, running int, done []int) {
			for i, job := range l.jobs {
				if done[i] == 0 || done[i] == job.Exec {
					continue
				}
				started++
				if running == -1 || l.jobs[running].Deadline > job.Deadline {
					t.Fatalf("RunResources(%v, %v, %v): job %d has started, but %d runs at %d", l.set, l.sections, l.jobs, i, running, now)
				}
				if running != i {
					preempted++
				}
			}
		})
	}
	if min(started, preempted) < 1000 {
		t.Fatal(started, preempted)
	}
}

func TestP32AJobIsBlockedForAtMostOneSection(t *testing.T) {
	blocked, longest := 0, 0
	for _, l := range admittedLoads() {
		s := l.complete(t)
		most := longestSection(l.sections)
		for i, job := range l.jobs {
			end := s.Finish[i]
			if end == -1 {
				end = 120
			}
			later := 0
			for _, running := range s.Run[job.Release:end] {
				if running != -1 && l.jobs[running].Deadline > job.Deadline {
					later++
				}
			}
			if later > most {
				t.Fatalf("RunResources(%v, %v, %v) = %v blocks job %d for %d ticks", l.set, l.sections, l.jobs, s, i, later)
			}
			if later > 0 {
				blocked++
			}
			// A section has begun before it blocks, so its first tick never does.
			if later > 0 && later == most-1 {
				longest++
			}
		}
	}
	if min(blocked, longest) < 100 {
		t.Fatal(blocked, longest)
	}
}

func TestP66WithoutSectionsThePolicyIsEarliestDeadlineFirst(t *testing.T) {
	for i, set := range slices.Concat(resourceSets(), fewDemandSets()) {
		for _, jobs := range patterns(set, i) {
			got := impl.RunResources(set, noSections(set), jobs)
			if !equalSchedules(got, impl.RunEdf(set, jobs)) || !equalSchedules(got, edfByScan(jobs)) {
				t.Fatalf("RunResources(%v, %v) without sections = %v, want %v", set, jobs, got, edfByScan(jobs))
			}
		}
	}
}

func idleTicks(run []int) []int {
	var idle []int
	for now, i := range run {
		if i == -1 {
			idle = append(idle, now)
		}
	}
	return idle
}

func TestP116WorkConservingPoliciesAreBusyAtTheSameTimes(t *testing.T) {
	idle, busy, different := 0, 0, 0
	for i, l := range resourceLoads() {
		edf := impl.RunEdf(l.set, l.jobs)
		want := idleTicks(edf.Run)
		if !slices.Equal(want, idleTicks(edfByScan(l.jobs).Run)) {
			t.Fatalf("RunEdf(%v, %v) is idle at %v", l.set, l.jobs, want)
		}
		idle += len(want)
		busy += 120 - len(want)
		resources := l.complete(t)
		if !slices.Equal(idleTicks(resources.Run), want) {
			t.Fatalf("RunResources(%v, %v, %v) is idle at %v, RunEdf at %v", l.set, l.sections, l.jobs, idleTicks(resources.Run), want)
		}
		if !slices.Equal(resources.Run, edf.Run) {
			different++
		}
		for _, order := range someOrders(len(l.set), i)[:3] {
			fixed := impl.RunFixed(l.set, order, l.jobs)
			if len(fixed.Run) != 120 || !slices.Equal(idleTicks(fixed.Run), want) {
				t.Fatalf("RunFixed(%v, %v, %v) is idle at %v, RunEdf at %v", l.set, order, l.jobs, idleTicks(fixed.Run), want)
			}
		}
	}
	if min(idle, busy, different) < 1000 {
		t.Fatal(idle, busy, different)
	}
}

func TestP120AJobExecutesForItsExecutionTime(t *testing.T) {
	finished, unfinished := 0, 0
	for _, l := range resourceLoads() {
		s := l.complete(t)
		ticks := make([][]int, len(l.jobs))
		for now, i := range s.Run {
			if i != -1 {
				ticks[i] = append(ticks[i], now)
			}
		}
		for i, job := range l.jobs {
			n := len(ticks[i])
			if n > 0 && ticks[i][0] < job.Release || n > job.Exec {
				t.Fatalf("RunResources(%v, %v, %v) runs job %d at %v", l.set, l.sections, l.jobs, i, ticks[i])
			}
			switch {
			case s.Finish[i] == -1 && n < job.Exec:
				unfinished++
			case n == job.Exec && s.Finish[i] == ticks[i][n-1]+1:
				finished++
			default:
				t.Fatalf("RunResources(%v, %v, %v): job %d runs at %v and finishes at %d", l.set, l.sections, l.jobs, i, ticks[i], s.Finish[i])
			}
		}
	}
	if min(finished, unfinished) < 1000 {
		t.Fatal(finished, unfinished)
	}
}

// withSpare copies a resource load into memory with spare capacity, which belongs to the caller, too.
func (l resourceLoad) withSpare() resourceLoad {
	l.set = append(slices.Clone(l.set), task(4, 5, 6), task(-1, -2, -3))[:len(l.set)]
	l.sections = append(slices.Clone(l.sections), section(7, 8, 9), section(-4, -5, -6))[:len(l.sections)]
	l.jobs = append(slices.Clone(l.jobs), impl.Job{TaskID: 7, Release: 8, Deadline: 9, Exec: 10}, impl.Job{})[:len(l.jobs)]
	return l
}

func (l resourceLoad) equalWithSpare(other resourceLoad) bool {
	n, m, k := len(l.set)+2, len(l.sections)+2, len(l.jobs)+2
	return slices.Equal(l.set[:n], other.set[:n]) && slices.Equal(l.sections[:m], other.sections[:m]) && slices.Equal(l.jobs[:k], other.jobs[:k])
}

func TestResourceFunctionsDoNotWriteToArguments(t *testing.T) {
	loads := invalidResourceArguments()
	for _, jobs := range illegalPatterns() {
		loads = append(loads, resourceLoad{pairSet(), wholeSections(pairSet()), jobs})
	}
	for i, l := range resourceLoads() {
		if i%5 == 0 {
			loads = append(loads, l)
		}
	}
	for _, l := range loads {
		argument, untouched := l.withSpare(), l.withSpare()
		impl.SectionsValid(argument.set, argument.sections)
		overwrite(impl.Ceilings(argument.set, argument.sections))
		impl.Blocking(argument.set, argument.sections, 3)
		impl.ResourcesFeasible(argument.set, argument.sections)
		s := argument.run()
		overwrite(s.Run)
		overwrite(s.Finish)
		if !argument.equalWithSpare(untouched) {
			t.Fatalf("%v became %v", untouched, argument)
		}
	}
}

func TestResourceResultsShareNoMemory(t *testing.T) {
	set := []impl.Task{task(1, 3, 12), task(4, 10, 12)}
	l := resourceLoad{set, []impl.Section{section(0, 1, 0), section(1, 2, 0)}, []impl.Job{jobOf(set, 1, 0, 4), jobOf(set, 0, 2, 1)}}
	want := resourcesByScan(l, &resourceSights{})
	first, second := l.run(), l.run()
	overwrite(first.Run)
	if !slices.Equal(first.Finish, want.Finish) {
		t.Fatal("the parts of a schedule share memory")
	}
	overwrite(first.Finish)
	if !equalSchedules(second, want) {
		t.Fatal("two schedules share memory")
	}
	ceilings := impl.Ceilings(l.set, l.sections)
	overwrite(impl.Ceilings(l.set, l.sections))
	clear(l.set)
	clear(l.sections)
	clear(l.jobs)
	if !equalSchedules(second, want) || !slices.Equal(ceilings, []int{3, 13, 13}) {
		t.Fatal("a result shares memory with an argument or another result")
	}
}
