package tests

import (
	"math"
	"slices"
	"testing"

	"loop.example/deadlinescheduler/impl"
)

func server(budget, period int) impl.Server {
	return impl.Server{Budget: budget, Period: period}
}

func request(time, exec int) impl.Arrival {
	return impl.Arrival{Time: time, Exec: exec}
}

// validServers lists every server that the document allows, built from the bounds and not with ServersValid.
func validServers() []impl.Server {
	var list []impl.Server
	for period := 1; period <= 12; period++ {
		for budget := 1; budget <= period; budget++ {
			list = append(list, server(budget, period))
		}
	}
	return list
}

func invalidServers() []impl.Server {
	return []impl.Server{
		{},
		server(0, 1),
		server(0, 12),
		server(-1, 4),
		server(1, 0),
		server(1, -1),
		server(-2, -1),
		server(2, 1),
		server(5, 4),
		server(12, 11),
		server(13, 12),
		server(1, 13),
		server(13, 13),
		server(math.MinInt, 4),
		server(1, math.MinInt),
		server(math.MinInt, math.MinInt),
		server(math.MaxInt, 4),
		server(1, math.MaxInt),
		server(math.MaxInt, math.MaxInt),
	}
}

// invalidServerLists puts every invalid server at every place, and adds lists that are too long.
func invalidServerLists() [][]impl.Server {
	lists := [][]impl.Server{
		slices.Repeat([]impl.Server{server(1, 12)}, 3),
		slices.Repeat([]impl.Server{server(1, 12)}, 1000),
		make([]impl.Server, 3),
	}
	for _, bad := range invalidServers() {
		lists = append(lists, []impl.Server{bad}, []impl.Server{bad, server(1, 2)}, []impl.Server{server(1, 2), bad})
	}
	return lists
}

func illegalRequests() [][]impl.Arrival {
	return [][]impl.Arrival{
		{{}},
		{request(0, 0)},
		{request(0, -1)},
		{request(0, 21)},
		{request(-1, 1)},
		{request(120, 1)},
		{request(math.MinInt, 1)},
		{request(math.MaxInt, 1)},
		{request(0, math.MinInt)},
		{request(0, math.MaxInt)},
		{request(1, 1), request(0, 1)},
		{request(119, 20), request(118, 20)},
		{request(3, 1), request(3, 1), request(2, 1)},
		{request(0, 1), request(5, 1), request(4, 1), request(6, 1)},
		slices.Repeat([]impl.Arrival{request(0, 1)}, 21),
		slices.Repeat([]impl.Arrival{request(119, 20)}, 1000),
		make([]impl.Arrival, 21),
	}
}

// requests lists requests that arrive before time 120, at most 20 of them. The functions choose the times in between and the execution times.
func requests(first int, gap func() int, exec func() int) []impl.Arrival {
	var list []impl.Arrival
	for time := first; time < 120 && len(list) < 20; time += gap() {
		list = append(list, request(time, exec()))
	}
	return list
}

// steady lists requests of one length, each of which arrives when the one before it finishes if it does not wait: they find the server idle as often as possible.
func steady(first, exec int) []impl.Arrival {
	same := func() int { return exec }
	return requests(first, same, same)
}

// requestPatterns has legal request patterns: none at all, single ones, bursts, short and long ones, dense and sparse ones.
func requestPatterns(s *sequence) [][]impl.Arrival {
	upTo := func(n int) func() int { return func() int { return s.below(n + 1) } }
	short := func() int { return 1 + s.below(3) }
	one := func() int { return 1 }
	return [][]impl.Arrival{
		nil,
		{request(0, 1)},
		{request(s.below(120), 20)},
		{request(119, 1), request(119, 20)},
		slices.Repeat([]impl.Arrival{request(0, 20)}, 20),
		requests(s.below(12), upTo(12), func() int { return 1 + s.below(20) }),
		requests(s.below(6), upTo(4), short),
		requests(s.below(12), upTo(12), short),
		requests(s.below(4), func() int { return 1 + s.below(3) }, one),
		requests(s.below(6), func() int { return s.below(2) * s.below(20) }, short),
		requests(90+s.below(20), upTo(3), short),
		steady(0, 1),
		steady(s.below(12), 1+s.below(3)),
	}
}

// someRequests picks one pattern for every server.
func someRequests(s *sequence, servers []impl.Server) [][]impl.Arrival {
	var arrivals [][]impl.Arrival
	for range servers {
		all := requestPatterns(s)
		arrivals = append(arrivals, all[s.below(len(all))])
	}
	return arrivals
}

func someServers(s *sequence, n int) []impl.Server {
	all := validServers()
	var servers []impl.Server
	for range n {
		servers = append(servers, all[s.below(len(all))])
	}
	return servers
}

type serverLoad struct {
	set      []impl.Task
	jobs     []impl.Job
	servers  []impl.Server
	arrivals [][]impl.Arrival
}

func (l serverLoad) run() impl.ServerRun {
	return impl.RunServers(l.set, l.jobs, l.servers, l.arrivals)
}

// serverLoads pairs a part of the sets and their patterns with servers and requests.
func serverLoads() []serverLoad {
	s := &sequence{state: 5}
	var loads []serverLoad
	for i, set := range demandSets() {
		if i%30 != 0 {
			continue
		}
		for _, jobs := range patterns(set, i) {
			for n := range 3 {
				for range n + 1 {
					servers := someServers(s, n)
					loads = append(loads, serverLoad{set, jobs, servers, someRequests(s, servers)})
				}
			}
		}
	}
	return loads
}

// parts is the total bandwidth of the servers, in parts of which multipleOfAllPeriods are the whole processor.
func parts(servers []impl.Server) int {
	sum := 0
	for _, s := range servers {
		sum += s.Budget * (multipleOfAllPeriods / s.Period)
	}
	return sum
}

// spareParts is the bandwidth that a set leaves to servers, rounded down to whole parts; -1 if it is overloaded itself.
// The second result reports whether nothing was rounded off, so that some interval has no tick to spare.
func spareParts(set []impl.Task) (int, bool) {
	due := dueBy(set)
	if firstAbove(due) != -1 {
		return -1, false
	}
	spare, exact := multipleOfAllPeriods, true
	for t, work := range due {
		if t == 0 {
			continue
		}
		free := (t - work) * multipleOfAllPeriods
		if free/t < spare {
			spare, exact = free/t, free%t == 0
		} else if free/t == spare {
			exact = exact || free%t == 0
		}
	}
	return spare, exact
}

// largestServers lists the servers with the largest bandwidth of at most the given number of parts, if there are any.
func largestServers(most int) []impl.Server {
	var best []impl.Server
	for _, s := range validServers() {
		p := parts([]impl.Server{s})
		switch {
		case p > most || len(best) > 0 && p < parts(best[:1]):
		case len(best) > 0 && p == parts(best[:1]):
			best = append(best, s)
		default:
			best = []impl.Server{s}
		}
	}
	return best
}

// admittedServers has lists of servers that a set leaves room for: none, one and two, which take as much as possible.
func admittedServers(s *sequence, set []impl.Task) [][]impl.Server {
	spare, _ := spareParts(set)
	lists := [][]impl.Server{nil}
	for _, first := range largestServers(spare) {
		lists = append(lists, []impl.Server{first})
	}
	for range 3 {
		first := someServers(s, 1)
		if rest := largestServers(spare - parts(first)); len(rest) > 0 {
			second := rest[s.below(len(rest))]
			lists = append(lists, []impl.Server{first[0], second}, []impl.Server{second, first[0]})
		}
	}
	return lists
}

// serverState follows one server as the document describes it; its requests wait in a queue, each with its number and what is left of it.
type serverState struct {
	impl.Server
	remaining int
	deadline  int
	queue     [][2]int
}

// sights counts the cases that the simulations of the tests go through.
type sights struct {
	atBound, belowBound, aboveBound, whilePending, postponed, postponedAgain, jobTies, serverTies, unfinished int
}

func (s *serverState) admit(now, number, exec int, seen *sights) {
	if len(s.queue) > 0 {
		seen.whilePending++
	} else {
		// How far the rest of the budget is above what the bandwidth permits until the deadline.
		excess := s.remaining*s.Period - (s.deadline-now)*s.Budget
		switch {
		case excess == 0:
			seen.atBound++
		case excess < 0:
			seen.belowBound++
		default:
			seen.aboveBound++
		}
		if excess >= 0 {
			s.remaining, s.deadline = s.Budget, now+s.Period
		}
	}
	s.queue = append(s.queue, [2]int{number, exec})
}

// serve returns the number of the request that is finished by this tick, or -1.
func (s *serverState) serve(seen *sights) int {
	s.remaining--
	if s.remaining == 0 {
		s.remaining, s.deadline = s.Budget, s.deadline+s.Period
		seen.postponed++
		if s.queue[0][1] > s.Budget {
			seen.postponedAgain++
		}
	}
	s.queue[0][1]--
	if s.queue[0][1] > 0 {
		return -1
	}
	number := s.queue[0][0]
	s.queue = s.queue[1:]
	return number
}

// candidates has the deadline, 0 for a job and 1 for a server, and the index of everything that may run.
func candidates(now int, jobs []impl.Job, left []int, states []*serverState) [][]int {
	var all [][]int
	for i, job := range jobs {
		if job.Release <= now && left[i] > 0 {
			all = append(all, []int{job.Deadline, 0, i})
		}
	}
	for k, s := range states {
		if len(s.queue) > 0 {
			all = append(all, []int{s.deadline, 1, k})
		}
	}
	slices.SortFunc(all, slices.Compare)
	return all
}

func (s *sights) noteTie(all [][]int) {
	if len(all) < 2 || all[0][0] != all[1][0] || all[1][1] == 0 {
		return
	}
	if all[0][1] == 0 {
		s.jobTies++
	} else {
		s.serverTies++
	}
}

// serversByScan looks through all jobs, servers and requests in every tick.
func serversByScan(l serverLoad, seen *sights) impl.ServerRun {
	r := impl.ServerRun{Jobs: impl.Schedule{Run: slices.Repeat([]int{-1}, 120), Finish: slices.Repeat([]int{-1}, len(l.jobs))}, Chosen: slices.Repeat([]int{-1}, 120)}
	var states []*serverState
	for k, s := range l.servers {
		states = append(states, &serverState{Server: s, remaining: s.Budget})
		r.Served = append(r.Served, slices.Repeat([]int{-1}, len(l.arrivals[k])))
	}
	var left []int
	for _, job := range l.jobs {
		left = append(left, job.Exec)
	}
	for now := range 120 {
		for k, list := range l.arrivals {
			for i, a := range list {
				if a.Time == now {
					states[k].admit(now, i, a.Exec, seen)
				}
			}
		}
		all := candidates(now, l.jobs, left, states)
		if len(all) == 0 {
			continue
		}
		seen.noteTie(all)
		index := all[0][2]
		if all[0][1] == 1 {
			r.Chosen[now] = index
			if done := states[index].serve(seen); done != -1 {
				r.Served[index][done] = now + 1
			}
			continue
		}
		r.Jobs.Run[now] = index
		left[index]--
		if left[index] == 0 {
			r.Jobs.Finish[index] = now + 1
		}
	}
	for _, s := range states {
		seen.unfinished += len(s.queue)
	}
	return r
}

func equalRuns(a, b impl.ServerRun) bool {
	return equalSchedules(a.Jobs, b.Jobs) && slices.Equal(a.Chosen, b.Chosen) && slices.EqualFunc(a.Served, b.Served, slices.Equal[[]int])
}

func isNothing(r impl.ServerRun) bool {
	return len(r.Jobs.Run) == 0 && len(r.Jobs.Finish) == 0 && len(r.Chosen) == 0 && len(r.Served) == 0
}

func TestServerLimits(t *testing.T) {
	if impl.MaxServers != 2 || impl.MaxArrivals != 20 || impl.MaxRequest != 20 {
		t.Fatal(impl.MaxServers, impl.MaxArrivals, impl.MaxRequest)
	}
}

func TestP56EveryListOfValidServers(t *testing.T) {
	all := validServers()
	if !impl.ServersValid(nil) || !impl.ServersValid([]impl.Server{}) {
		t.Fatal("no servers are invalid")
	}
	for _, a := range all {
		if !impl.ServersValid([]impl.Server{a}) {
			t.Fatalf("ServersValid(%v) = false", a)
		}
		for _, b := range all {
			if !impl.ServersValid([]impl.Server{a, b}) {
				t.Fatalf("ServersValid(%v, %v) = false", a, b)
			}
			// MaxServers is 2.
			if impl.ServersValid([]impl.Server{a, b, a}) {
				t.Fatalf("ServersValid(%v, %v, %v) = true", a, b, a)
			}
		}
	}
}

func TestP56ABudgetAboveThePeriodIsInvalid(t *testing.T) {
	for _, s := range validServers() {
		for _, other := range validServers() {
			for budget := s.Period + 1; budget <= 14; budget++ {
				bad := server(budget, s.Period)
				if impl.ServersValid([]impl.Server{bad}) || impl.ServersValid([]impl.Server{bad, other}) || impl.ServersValid([]impl.Server{other, bad}) {
					t.Fatalf("%v is valid, alone or with %v", bad, other)
				}
			}
		}
	}
}

func TestP56NothingElseIsValid(t *testing.T) {
	valid := 0
	for budget := -15; budget <= 15; budget++ {
		for period := -15; period <= 15; period++ {
			if impl.ServersValid([]impl.Server{server(budget, period)}) {
				valid++
			}
		}
	}
	if valid != len(validServers()) {
		t.Fatalf("%d servers are valid, want %d", valid, len(validServers()))
	}
	for _, servers := range invalidServerLists() {
		if impl.ServersValid(servers) {
			t.Fatalf("ServersValid(%v) = true", servers)
		}
	}
}

// isLegalRequests compares every request with every other one, in the words of the document.
func isLegalRequests(list []impl.Arrival) bool {
	if len(list) > 20 {
		return false
	}
	for i, a := range list {
		if a.Time < 0 || a.Time > 119 || a.Exec < 1 || a.Exec > 20 {
			return false
		}
		for _, b := range list[:i] {
			if b.Time > a.Time {
				return false
			}
		}
	}
	return true
}

func TestP57PrefixesAreLegal(t *testing.T) {
	s := &sequence{state: 57}
	longest := 0
	for range 50 {
		for _, list := range requestPatterns(s) {
			longest = max(longest, len(list))
			for n := range len(list) + 1 {
				if !impl.ArrivalsLegal(list[:n]) {
					t.Fatalf("ArrivalsLegal(%v) = false", list[:n])
				}
			}
		}
	}
	if longest != 20 {
		t.Fatal(longest)
	}
}

func TestP57EveryRuleIsChecked(t *testing.T) {
	s := &sequence{state: 157}
	legal, illegal := 0, 0
	check := func(list []impl.Arrival) {
		t.Helper()
		want := isLegalRequests(list)
		if got := impl.ArrivalsLegal(list); got != want {
			t.Fatalf("ArrivalsLegal(%v) = %v", list, got)
		}
		if want {
			legal++
		} else {
			illegal++
		}
	}
	for range 20 {
		for _, list := range requestPatterns(s) {
			for i := range list {
				for _, by := range []int{-120, -20, -2, -1, 1, 2, 20, 120, math.MinInt, math.MaxInt} {
					later, longer := slices.Clone(list), slices.Clone(list)
					later[i].Time += by
					longer[i].Exec += by
					check(later)
					check(longer)
				}
				swapped := slices.Clone(list)
				swapped[i], swapped[0] = swapped[0], swapped[i]
				check(swapped)
				check(slices.Insert(slices.Clone(list), i, list[i]))
				check(slices.Delete(slices.Clone(list), i, i+1))
			}
		}
	}
	if min(legal, illegal) < 1000 {
		t.Fatal(legal, illegal)
	}
}

func TestP57Examples(t *testing.T) {
	for _, list := range [][]impl.Arrival{
		nil,
		{},
		{request(0, 1)},
		{request(0, 20)},
		{request(119, 1)},
		{request(119, 20)},
		{request(7, 3), request(7, 2), request(7, 5)},
		{request(0, 20), request(119, 1)},
		slices.Repeat([]impl.Arrival{request(0, 20)}, 20),
		slices.Repeat([]impl.Arrival{request(119, 1)}, 20),
	} {
		if !impl.ArrivalsLegal(list) {
			t.Fatalf("ArrivalsLegal(%v) = false", list)
		}
	}
	for _, list := range illegalRequests() {
		if impl.ArrivalsLegal(list) {
			t.Fatalf("ArrivalsLegal(%v) = true", list)
		}
	}
}

func TestP58FeasibleIsWithinTheSpareBandwidth(t *testing.T) {
	s := &sequence{state: 58}
	feasible, exactlyFull, overFull := 0, 0, 0
	for i, set := range demandSets() {
		if len(set) > 1 && i%25 != 0 {
			continue
		}
		spare, exact := spareParts(set)
		lists := admittedServers(s, set)
		for _, x := range validServers() {
			lists = append(lists, []impl.Server{x})
		}
		for range 20 {
			lists = append(lists, someServers(s, 2))
		}
		for _, servers := range lists {
			p := parts(servers)
			if got := impl.ServersFeasible(set, servers); got != (p <= spare) {
				t.Fatalf("ServersFeasible(%v, %v) = %v", set, servers, got)
			}
			switch {
			case p > spare:
				overFull++
			case p == spare && exact && len(servers) > 0:
				exactlyFull++
			default:
				feasible++
			}
		}
	}
	if min(feasible, exactlyFull, overFull) < 100 {
		t.Fatal(feasible, exactlyFull, overFull)
	}
}

func TestP58WithoutServersTheTestIsEdfFeasible(t *testing.T) {
	for _, set := range slices.Concat(fewDemandSets(), invalidSets()) {
		want := impl.EdfFeasible(set)
		if impl.ServersFeasible(set, nil) != want || impl.ServersFeasible(set, []impl.Server{}) != want {
			t.Fatalf("ServersFeasible(%v, nil) is not %v", set, want)
		}
	}
}

func TestP58AServerNeedsItsBandwidth(t *testing.T) {
	s := &sequence{state: 158}
	pairs := 0
	for i, set := range demandSets() {
		if len(set) > 1 && i%10 != 0 {
			continue
		}
		u := impl.Utilization(set)
		for _, servers := range append(admittedServers(s, set), someServers(s, 1), someServers(s, 2)) {
			if !impl.ServersFeasible(set, servers) {
				continue
			}
			if !impl.EdfFeasible(set) {
				t.Fatalf("%v is feasible with %v, but not without", set, servers)
			}
			if u.Num*(multipleOfAllPeriods/u.Den)+parts(servers) > multipleOfAllPeriods {
				t.Fatalf("%v is feasible with %v", set, servers)
			}
			for k := range servers {
				if less := slices.Delete(slices.Clone(servers), k, k+1); !impl.ServersFeasible(set, less) {
					t.Fatalf("%v is feasible with %v, but not with %v", set, servers, less)
				}
			}
			if len(servers) == 2 {
				pairs++
			}
		}
	}
	if pairs < 100 {
		t.Fatal(pairs)
	}
}

func TestP58Examples(t *testing.T) {
	half := []impl.Task{task(2, 4, 4)}
	for _, c := range []struct {
		set     []impl.Task
		servers []impl.Server
		want    bool
	}{
		{nil, nil, true},
		{[]impl.Task{}, []impl.Server{}, true},
		{nil, []impl.Server{server(1, 1)}, true},
		{nil, []impl.Server{server(12, 12)}, true},
		{nil, []impl.Server{server(1, 2), server(6, 12)}, true},
		{nil, []impl.Server{server(1, 3), server(8, 12)}, true},
		{nil, []impl.Server{server(1, 3), server(9, 12)}, false},
		{nil, []impl.Server{server(10, 11), server(1, 12)}, true},
		{nil, []impl.Server{server(10, 11), server(1, 11)}, true},
		{nil, []impl.Server{server(10, 11), server(1, 10)}, false},
		{nil, []impl.Server{server(1, 1), server(1, 12)}, false},
		{half, []impl.Server{server(2, 4)}, true},
		{half, []impl.Server{server(3, 4)}, false},
		{half, []impl.Server{server(5, 11)}, true},
		{half, []impl.Server{server(6, 11)}, false},
		{half, []impl.Server{server(1, 4), server(3, 12)}, true},
		{half, []impl.Server{server(1, 4), server(3, 11)}, false},
		// The deadline leaves less room than the utilization.
		{[]impl.Task{task(2, 4, 8)}, []impl.Server{server(2, 4)}, true},
		{[]impl.Task{task(2, 4, 8)}, []impl.Server{server(3, 4)}, false},
		{[]impl.Task{task(2, 4, 8)}, []impl.Server{server(6, 11)}, false},
		{[]impl.Task{task(4, 4, 12)}, []impl.Server{server(1, 12)}, false},
		// A part of a tick too much is not rounded off.
		{[]impl.Task{task(1, 8, 8)}, []impl.Server{server(7, 8)}, true},
		{[]impl.Task{task(1, 8, 8)}, []impl.Server{server(8, 9)}, false},
		{[]impl.Task{task(1, 8, 8)}, []impl.Server{server(11, 12)}, false},
		{pairSet(), nil, true},
		{pairSet(), []impl.Server{server(1, 12)}, false},
		{[]impl.Task{task(2, 4, 4), task(3, 4, 6)}, nil, false},
		{[]impl.Task{task(2, 4, 4), task(3, 4, 6)}, []impl.Server{server(1, 12)}, false},
	} {
		if got := impl.ServersFeasible(c.set, c.servers); got != c.want {
			t.Fatalf("ServersFeasible(%v, %v) = %v", c.set, c.servers, got)
		}
	}
}

func TestP58InvalidArgumentsAreNotFeasible(t *testing.T) {
	for _, servers := range invalidServerLists() {
		for _, set := range [][]impl.Task{nil, {}, pairSet(), {task(1, 12, 12)}} {
			if impl.ServersFeasible(set, servers) {
				t.Fatalf("ServersFeasible(%v, %v) = true", set, servers)
			}
		}
	}
	for _, set := range invalidSets() {
		for _, servers := range [][]impl.Server{nil, {}, {server(1, 12)}, {server(0, 0)}} {
			if impl.ServersFeasible(set, servers) {
				t.Fatalf("ServersFeasible(%v, %v) = true", set, servers)
			}
		}
	}
}

func TestRunServersFollowsTheDocument(t *testing.T) {
	var seen sights
	for _, l := range serverLoads() {
		if got, want := l.run(), serversByScan(l, &seen); !equalRuns(got, want) {
			t.Fatalf("RunServers(%v, %v, %v, %v) = %v, want %v", l.set, l.jobs, l.servers, l.arrivals, got, want)
		}
	}
	if min(seen.atBound, seen.belowBound, seen.aboveBound, seen.whilePending, seen.postponed, seen.postponedAgain, seen.jobTies, seen.serverTies, seen.unfinished) < 500 {
		t.Fatal(seen)
	}
}

// Beside the indices of jobs, the examples write these numbers for the ticks in which a server runs.
const server0, server1 = 100, 101

type serverExample struct {
	set      []impl.Task
	jobs     []impl.Job
	servers  []impl.Server
	arrivals [][]impl.Arrival
	start    int
	ticks    []int
	finish   []int
	served   [][]int
}

func checkServerExamples(t *testing.T, list []serverExample) {
	t.Helper()
	for _, c := range list {
		run, chosen := slices.Repeat([]int{-1}, 120), slices.Repeat([]int{-1}, 120)
		for i, x := range c.ticks {
			if x >= server0 {
				chosen[c.start+i] = x - server0
			} else {
				run[c.start+i] = x
			}
		}
		want := impl.ServerRun{Jobs: impl.Schedule{Run: run, Finish: c.finish}, Chosen: chosen, Served: c.served}
		if got := impl.RunServers(c.set, c.jobs, c.servers, c.arrivals); !equalRuns(got, want) {
			t.Fatalf("RunServers(%v, %v, %v, %v) = %v, want %v", c.set, c.jobs, c.servers, c.arrivals, got, want)
		}
	}
}

func TestTheBoundOfANewDeadline(t *testing.T) {
	// After one tick of service the server has the deadline 4 and one unit of budget: from time 2 on a request gets a new deadline.
	half := []impl.Server{server(2, 4)}
	four, three := []impl.Task{task(1, 4, 12)}, []impl.Task{task(1, 3, 12)}
	pair := []impl.Task{task(2, 3, 12), task(1, 3, 12)}
	checkServerExamples(t, []serverExample{
		{four, []impl.Job{jobOf(four, 0, 1, 1)}, half, [][]impl.Arrival{{request(0, 1), request(1, 1)}}, 0, []int{server0, server0, 0}, []int{3}, [][]int{{1, 2}}},
		{three, []impl.Job{jobOf(three, 0, 2, 1)}, half, [][]impl.Arrival{{request(0, 1), request(2, 1)}}, 0, []int{server0, -1, 0, server0}, []int{3}, [][]int{{1, 4}}},
		{three, []impl.Job{jobOf(three, 0, 3, 1)}, half, [][]impl.Arrival{{request(0, 1), request(3, 1)}}, 0, []int{server0, -1, -1, 0, server0}, []int{4}, [][]int{{1, 5}}},
		// With the old deadline the budget is not replenished either: it ends after one tick.
		{four, []impl.Job{jobOf(four, 0, 1, 1)}, half, [][]impl.Arrival{{request(0, 1), request(1, 2)}}, 0, []int{server0, server0, 0, server0}, []int{3}, [][]int{{1, 4}}},
		// With a new one it is: two ticks fit before the job of deadline 7.
		{[]impl.Task{task(1, 5, 12)}, []impl.Job{{TaskID: 0, Release: 2, Deadline: 7, Exec: 1}}, half, [][]impl.Arrival{{request(0, 1), request(2, 3)}}, 0, []int{server0, -1, server0, server0, 0, server0}, []int{5}, [][]int{{1, 6}}},
		// While a request is pending the next one changes nothing, though the server lags behind its bandwidth.
		{pair, []impl.Job{jobOf(pair, 0, 0, 2), jobOf(pair, 1, 2, 1)}, half, [][]impl.Arrival{{request(0, 1), request(2, 1)}}, 0, []int{0, 0, server0, server0, 1}, []int{2, 5}, [][]int{{3, 4}}},
		// A request that finishes just when the next one arrives is no longer pending.
		{pair, []impl.Job{jobOf(pair, 0, 0, 1), jobOf(pair, 1, 2, 1)}, half, [][]impl.Arrival{{request(0, 1), request(2, 1)}}, 0, []int{0, server0, 1, server0}, []int{1, 3}, [][]int{{2, 4}}},
		// A full budget at the deadline itself, and long after it.
		{four, []impl.Job{jobOf(four, 0, 8, 1)}, half, [][]impl.Arrival{{request(0, 2), request(8, 1)}}, 0, []int{server0, server0, -1, -1, -1, -1, -1, -1, 0, server0}, []int{9}, [][]int{{2, 10}}},
		{four, []impl.Job{jobOf(four, 0, 50, 1)}, half, [][]impl.Arrival{{request(50, 1)}}, 50, []int{0, server0}, []int{51}, [][]int{{52}}},
	})
}

func TestAPostponedDeadline(t *testing.T) {
	seven, eight, six := []impl.Task{task(1, 7, 12)}, []impl.Task{task(2, 8, 12)}, []impl.Task{task(1, 6, 12)}
	three := []impl.Task{task(1, 3, 12)}
	checkServerExamples(t, []serverExample{
		{seven, []impl.Job{jobOf(seven, 0, 0, 1)}, []impl.Server{server(1, 4)}, [][]impl.Arrival{{request(0, 3)}}, 0, []int{server0, 0, server0, server0}, []int{2}, [][]int{{4}}},
		{eight, []impl.Job{jobOf(eight, 0, 0, 2)}, []impl.Server{server(1, 3)}, [][]impl.Arrival{{request(0, 4)}}, 0, []int{server0, server0, 0, 0, server0, server0}, []int{4}, [][]int{{6}}},
		// The budget is exhausted just as the request ends: the next one, a tick later, finds the deadline 8.
		{six, []impl.Job{jobOf(six, 0, 1, 1)}, []impl.Server{server(1, 4)}, [][]impl.Arrival{{request(0, 1), request(1, 1)}}, 0, []int{server0, 0, server0}, []int{2}, [][]int{{1, 3}}},
		// A budget equal to the period.
		{six, []impl.Job{jobOf(six, 0, 0, 1)}, []impl.Server{server(4, 4)}, [][]impl.Arrival{{request(0, 10)}}, 0, []int{server0, server0, server0, server0, 0, server0, server0, server0, server0, server0, server0}, []int{5}, [][]int{{11}}},
		{three, []impl.Job{jobOf(three, 0, 0, 1)}, []impl.Server{server(1, 1)}, [][]impl.Arrival{{request(0, 4)}}, 0, []int{server0, server0, 0, server0, server0}, []int{3}, [][]int{{5}}},
		// The budget is shared by the requests: the second one begins with what the first one left.
		{six, []impl.Job{jobOf(six, 0, 0, 1)}, []impl.Server{server(3, 5)}, [][]impl.Arrival{{request(0, 2), request(0, 2)}}, 0, []int{server0, server0, server0, 0, server0}, []int{4}, [][]int{{2, 5}}},
		// Two servers with many units of work take turns.
		{nil, nil, []impl.Server{server(2, 4), server(1, 3)}, [][]impl.Arrival{{request(0, 5)}, {request(0, 4)}}, 0, []int{server1, server0, server0, server1, server0, server0, server1, server0, server1}, nil, [][]int{{8}, {9}}},
	})
}

func TestServerTies(t *testing.T) {
	four := []impl.Task{task(1, 4, 4), task(1, 4, 4)}
	five := []impl.Task{task(1, 5, 12)}
	jobs := []impl.Job{jobOf(four, 0, 0, 1), jobOf(four, 1, 0, 1)}
	twins := []impl.Server{server(2, 4), server(2, 4)}
	both := [][]impl.Arrival{{request(0, 1)}, {request(0, 1)}}
	checkServerExamples(t, []serverExample{
		{nil, nil, twins, both, 0, []int{server0, server1}, nil, [][]int{{1}, {2}}},
		{nil, nil, []impl.Server{server(1, 4), server(1, 3)}, both, 0, []int{server1, server0}, nil, [][]int{{2}, {1}}},
		{nil, nil, twins, [][]impl.Arrival{{request(0, 3)}, {request(0, 2)}}, 0, []int{server0, server0, server1, server1, server0}, nil, [][]int{{5}, {4}}},
		{four, jobs, twins, both, 0, []int{0, 1, server0, server1}, []int{1, 2}, [][]int{{3}, {4}}},
		{five, []impl.Job{jobOf(five, 0, 0, 1)}, twins, both, 0, []int{server0, server1, 0}, []int{3}, [][]int{{1}, {2}}},
		// A server that runs is preempted for a job that is due at the same time.
		{four, []impl.Job{jobOf(four, 1, 1, 1)}, []impl.Server{server(4, 5)}, [][]impl.Arrival{{request(0, 3)}}, 0, []int{server0, 0, server0, server0}, []int{2}, [][]int{{4}}},
	})
}

func TestServersAtTheEndsOfTheSimulation(t *testing.T) {
	half := []impl.Server{server(1, 2)}
	set := pairSet()
	checkServerExamples(t, []serverExample{
		{nil, nil, nil, nil, 0, nil, nil, nil},
		{[]impl.Task{}, []impl.Job{}, []impl.Server{}, [][]impl.Arrival{}, 0, nil, nil, nil},
		{set, nil, half, [][]impl.Arrival{nil}, 0, nil, nil, [][]int{{}}},
		{set, nil, []impl.Server{server(1, 2), server(1, 1)}, [][]impl.Arrival{{}, nil}, 0, nil, nil, [][]int{nil, nil}},
		{set, synchronousTo(set, 12), nil, nil, 0, []int{0, 0, 1, 1, 1, 2, 2, 3, 3, 3, 4, 4}, []int{2, 5, 7, 10, 12}, nil},
		{nil, nil, half, [][]impl.Arrival{{request(0, 1)}}, 0, []int{server0}, nil, [][]int{{1}}},
		{nil, nil, half, [][]impl.Arrival{{request(119, 1)}}, 119, []int{server0}, nil, [][]int{{120}}},
		{nil, nil, half, [][]impl.Arrival{{request(119, 2)}}, 119, []int{server0}, nil, [][]int{{-1}}},
		{nil, nil, half, [][]impl.Arrival{{request(119, 1), request(119, 1)}}, 119, []int{server0}, nil, [][]int{{120, -1}}},
		{nil, nil, half, [][]impl.Arrival{{request(100, 20)}}, 100, slices.Repeat([]int{server0}, 20), nil, [][]int{{120}}},
		{nil, nil, half, [][]impl.Arrival{{request(101, 20)}}, 101, slices.Repeat([]int{server0}, 19), nil, [][]int{{-1}}},
		{set, []impl.Job{jobOf(set, 0, 119, 1)}, half, [][]impl.Arrival{{request(119, 1)}}, 119, []int{server0}, []int{-1}, [][]int{{120}}},
		{set, []impl.Job{jobOf(set, 0, 119, 1)}, []impl.Server{server(1, 4)}, [][]impl.Arrival{{request(119, 1)}}, 119, []int{0}, []int{120}, [][]int{{-1}}},
	})
}

func TestRunServersOfInvalidArguments(t *testing.T) {
	check := func(set []impl.Task, jobs []impl.Job, servers []impl.Server, arrivals [][]impl.Arrival) {
		t.Helper()
		if r := impl.RunServers(set, jobs, servers, arrivals); !isNothing(r) {
			t.Fatalf("RunServers(%v, %v, %v, %v) = %v", set, jobs, servers, arrivals, r)
		}
	}
	set, jobs := pairSet(), synchronousTo(pairSet(), 12)
	one, two := []impl.Server{server(1, 4)}, []impl.Server{server(1, 4), server(2, 3)}
	fine := []impl.Arrival{request(0, 3)}
	for _, jobs := range illegalPatterns() {
		check(set, jobs, nil, nil)
		check(set, jobs, one, [][]impl.Arrival{fine})
		check(nil, jobs, one, [][]impl.Arrival{fine})
	}
	for _, set := range invalidSets() {
		check(set, nil, nil, nil)
		check(set, nil, one, [][]impl.Arrival{fine})
	}
	for _, servers := range invalidServerLists() {
		check(set, jobs, servers, make([][]impl.Arrival, len(servers)))
		check(set, jobs, servers, slices.Repeat([][]impl.Arrival{fine}, len(servers)))
		check(nil, nil, servers, nil)
	}
	for _, bad := range illegalRequests() {
		check(set, jobs, one, [][]impl.Arrival{bad})
		check(set, jobs, two, [][]impl.Arrival{fine, bad})
		check(set, jobs, two, [][]impl.Arrival{bad, nil})
		check(nil, nil, nil, [][]impl.Arrival{bad})
	}
	for n, servers := range [][]impl.Server{nil, one, two} {
		for _, k := range []int{0, 1, 2, 3, 100} {
			if k != n {
				check(set, jobs, servers, make([][]impl.Arrival, k))
				check(set, jobs, servers, slices.Repeat([][]impl.Arrival{fine}, k))
			}
		}
	}
}

func TestP8AperiodicLoadNeverDisturbsAdmittedTasks(t *testing.T) {
	s := &sequence{state: 8}
	runs, full, busy := 0, 0, 0
	for i, set := range demandSets() {
		spare, exact := spareParts(set)
		if spare < 0 || i%3 != 0 {
			continue
		}
		for _, servers := range admittedServers(s, set) {
			if !impl.ServersFeasible(set, servers) {
				t.Fatalf("ServersFeasible(%v, %v) = false", set, servers)
			}
			for _, jobs := range patterns(set, i) {
				arrivals := someRequests(s, servers)
				r := impl.RunServers(set, jobs, servers, arrivals)
				if len(r.Jobs.Finish) != len(jobs) || len(impl.Missed(jobs, r.Jobs)) != 0 || len(missedBy(jobs, r.Jobs.Run)) != 0 {
					t.Fatalf("RunServers(%v, %v, %v, %v) misses %v", set, jobs, servers, arrivals, impl.Missed(jobs, r.Jobs))
				}
				runs++
				if exact && len(servers) > 0 && parts(servers) == spare {
					full++
				}
				if len(jobs) > 0 && slices.Max(r.Chosen) >= 0 {
					busy++
				}
			}
		}
	}
	if min(runs, full, busy) < 1000 {
		t.Fatal(runs, full, busy)
	}
}

func TestP8Examples(t *testing.T) {
	flood := slices.Repeat([]impl.Arrival{request(0, 20)}, 20)
	for _, c := range []struct {
		set     []impl.Task
		servers []impl.Server
	}{
		{nil, []impl.Server{server(1, 1)}},
		{[]impl.Task{task(6, 12, 12)}, []impl.Server{server(2, 4)}},
		{[]impl.Task{task(6, 12, 12)}, []impl.Server{server(1, 4), server(3, 12)}},
		{[]impl.Task{task(2, 4, 8)}, []impl.Server{server(1, 2)}},
		{[]impl.Task{task(2, 4, 4)}, []impl.Server{server(5, 11)}},
		{[]impl.Task{task(1, 2, 2), task(1, 4, 4)}, []impl.Server{server(1, 8), server(1, 8)}},
		{[]impl.Task{task(1, 12, 12)}, []impl.Server{server(11, 12)}},
	} {
		if !impl.ServersFeasible(c.set, c.servers) {
			t.Fatalf("ServersFeasible(%v, %v) = false", c.set, c.servers)
		}
		for _, list := range [][]impl.Arrival{nil, flood, steady(0, 1), steady(1, 2), steady(0, 3), {request(119, 20)}} {
			for _, jobs := range patterns(c.set, 8) {
				r := impl.RunServers(c.set, jobs, c.servers, slices.Repeat([][]impl.Arrival{list}, len(c.servers)))
				if len(r.Jobs.Run) != 120 || len(impl.Missed(jobs, r.Jobs)) != 0 || len(missedBy(jobs, r.Jobs.Run)) != 0 {
					t.Fatalf("RunServers(%v, %v, %v) misses %v with the requests %v", c.set, jobs, c.servers, impl.Missed(jobs, r.Jobs), list)
				}
			}
		}
	}
}

func TestP8ServersThatAreTooLargeDoDisturb(t *testing.T) {
	// Otherwise the requests of the tests would be too few to tell.
	s := &sequence{state: 108}
	disturbed := 0
	for i, set := range demandSets() {
		spare, _ := spareParts(set)
		if spare < 0 || i%6 != 0 {
			continue
		}
		for _, servers := range [][]impl.Server{someServers(s, 1), someServers(s, 2)} {
			if parts(servers) <= spare {
				continue
			}
			for _, jobs := range patterns(set, i) {
				r := impl.RunServers(set, jobs, servers, someRequests(s, servers))
				if len(impl.Missed(jobs, r.Jobs)) > 0 {
					disturbed++
				}
			}
		}
	}
	if disturbed < 100 {
		t.Fatal(disturbed)
	}
}

func TestP59EveryServerServesItsRequestsInOrder(t *testing.T) {
	finished, unfinished := 0, 0
	for _, l := range serverLoads() {
		r := l.run()
		if len(r.Served) != len(l.servers) {
			t.Fatalf("RunServers(%v, %v, %v, %v) serves %v", l.set, l.jobs, l.servers, l.arrivals, r.Served)
		}
		for k, list := range l.arrivals {
			if len(r.Served[k]) != len(list) {
				t.Fatalf("server %d has %d requests and %d finish times", k, len(list), len(r.Served[k]))
			}
			done := checkServed(t, list, r.Served[k], ticksOf(r.Chosen, k))
			finished += done
			unfinished += len(list) - done
		}
	}
	if min(finished, unfinished) < 1000 {
		t.Fatal(finished, unfinished)
	}
}

func ticksOf(chosen []int, k int) []int {
	var ticks []int
	for now, c := range chosen {
		if c == k {
			ticks = append(ticks, now)
		}
	}
	return ticks
}

// checkServed hands the ticks of a server out to its requests in order, and returns how many of them are finished.
func checkServed(t *testing.T, list []impl.Arrival, served, ticks []int) int {
	t.Helper()
	done, last := 0, 0
	for i, a := range list {
		if served[i] == -1 {
			break
		}
		if len(ticks) < a.Exec || ticks[0] < a.Time || served[i] != ticks[a.Exec-1]+1 {
			t.Fatalf("request %d of %v finishes at %d, with the ticks %v for it and those behind it", i, list, served[i], ticks)
		}
		if served[i] <= last || served[i] < a.Time+a.Exec || served[i] > 120 {
			t.Fatalf("the requests %v finish at %v", list, served)
		}
		last = served[i]
		ticks = ticks[a.Exec:]
		done++
	}
	for _, f := range served[done:] {
		if f != -1 {
			t.Fatalf("the requests %v finish at %v", list, served)
		}
	}
	if done == len(list) && len(ticks) > 0 || done < len(list) && len(ticks) >= list[done].Exec {
		t.Fatalf("the requests %v finish at %v, and the ticks %v remain", list, served, ticks)
	}
	if done < len(list) && len(ticks) > 0 && ticks[0] < list[done].Time {
		t.Fatalf("request %d of %v runs at %d", done, list, ticks[0])
	}
	return done
}

func TestP60ServersWithoutRequestsDoNotExist(t *testing.T) {
	s := &sequence{state: 60}
	for _, w := range workloads() {
		want := impl.RunEdf(w.set, w.jobs)
		for n := range 3 {
			r := impl.RunServers(w.set, w.jobs, someServers(s, n), make([][]impl.Arrival, n))
			if !equalSchedules(r.Jobs, want) {
				t.Fatalf("with %d servers %v runs as %v, without as %v", n, w.jobs, r.Jobs, want)
			}
			if !slices.Equal(r.Chosen, slices.Repeat([]int{-1}, 120)) || len(r.Served) != n {
				t.Fatalf("%d servers without requests run as %v, %v", n, r.Chosen, r.Served)
			}
			for _, served := range r.Served {
				if len(served) != 0 {
					t.Fatalf("requests that do not arrive finish at %v", served)
				}
			}
		}
	}
}

func TestP60AServerWithoutRequestsDoesNotDisturbTheOther(t *testing.T) {
	s := &sequence{state: 160}
	for _, l := range serverLoads() {
		if len(l.servers) != 1 {
			continue
		}
		want := l.run()
		idle := someServers(s, 1)[0]
		after := impl.RunServers(l.set, l.jobs, []impl.Server{l.servers[0], idle}, [][]impl.Arrival{l.arrivals[0], nil})
		if !equalSchedules(after.Jobs, want.Jobs) || !slices.Equal(after.Chosen, want.Chosen) || !slices.Equal(after.Served[0], want.Served[0]) {
			t.Fatalf("%v changes %v into %v", idle, want, after)
		}
		before := impl.RunServers(l.set, l.jobs, []impl.Server{idle, l.servers[0]}, [][]impl.Arrival{nil, l.arrivals[0]})
		if !equalSchedules(before.Jobs, want.Jobs) || !slices.Equal(ticksOf(before.Chosen, 1), ticksOf(want.Chosen, 0)) || !slices.Equal(before.Served[1], want.Served[0]) {
			t.Fatalf("%v changes %v into %v", idle, want, before)
		}
	}
}

func TestP60AJobRunsOrAServerOrNeither(t *testing.T) {
	job, server, neither := 0, 0, 0
	for _, l := range serverLoads() {
		r := l.run()
		if len(r.Jobs.Run) != 120 || len(r.Chosen) != 120 {
			t.Fatalf("%d and %d ticks", len(r.Jobs.Run), len(r.Chosen))
		}
		for now := range 120 {
			i, k := r.Jobs.Run[now], r.Chosen[now]
			if i < -1 || i >= len(l.jobs) || k < -1 || k >= len(l.servers) {
				t.Fatalf("job %d and server %d run at %d", i, k, now)
			}
			switch {
			case i != -1 && k != -1:
				t.Fatalf("RunServers(%v, %v, %v, %v) runs job %d and server %d at %d", l.set, l.jobs, l.servers, l.arrivals, i, k, now)
			case i != -1:
				job++
			case k != -1:
				server++
			default:
				neither++
			}
		}
	}
	if min(job, server, neither) < 1000 {
		t.Fatal(job, server, neither)
	}
}

// backToBack has the finish times of the requests of a server that is alone.
func backToBack(list []impl.Arrival) []int {
	var finish []int
	end := 0
	for _, a := range list {
		end = max(end, a.Time) + a.Exec
		if end > 120 {
			finish = append(finish, -1)
		} else {
			finish = append(finish, end)
		}
	}
	return finish
}

func TestP61AServerThatIsAloneGetsTheWholeProcessor(t *testing.T) {
	s := &sequence{state: 61}
	late := 0
	for _, x := range validServers() {
		for range 3 {
			for _, list := range requestPatterns(s) {
				want := backToBack(list)
				for _, set := range [][]impl.Task{nil, pairSet()} {
					r := impl.RunServers(set, nil, []impl.Server{x}, [][]impl.Arrival{list})
					if len(r.Served) != 1 || !slices.Equal(r.Served[0], want) {
						t.Fatalf("%v serves %v at %v, want %v", x, list, r.Served, want)
					}
				}
				if slices.Contains(want, -1) {
					late++
				}
			}
		}
	}
	if late < 100 {
		t.Fatal(late)
	}
}

func TestP61Examples(t *testing.T) {
	for _, c := range []struct {
		list []impl.Arrival
		want []int
	}{
		{nil, nil},
		{[]impl.Arrival{request(0, 1)}, []int{1}},
		{[]impl.Arrival{request(0, 20)}, []int{20}},
		{[]impl.Arrival{request(119, 1)}, []int{120}},
		{[]impl.Arrival{request(119, 2)}, []int{-1}},
		{[]impl.Arrival{request(3, 5), request(4, 2), request(20, 1)}, []int{8, 10, 21}},
		{[]impl.Arrival{request(3, 5), request(3, 2), request(3, 1)}, []int{8, 10, 11}},
		{[]impl.Arrival{request(0, 4), request(4, 4), request(9, 4)}, []int{4, 8, 13}},
		{slices.Repeat([]impl.Arrival{request(0, 20)}, 7), []int{20, 40, 60, 80, 100, 120, -1}},
		{slices.Repeat([]impl.Arrival{request(1, 20)}, 7), []int{21, 41, 61, 81, 101, -1, -1}},
	} {
		for _, x := range validServers() {
			r := impl.RunServers(nil, nil, []impl.Server{x}, [][]impl.Arrival{c.list})
			if len(r.Served) != 1 || !slices.Equal(r.Served[0], c.want) {
				t.Fatalf("%v serves %v at %v, want %v", x, c.list, r.Served, c.want)
			}
		}
	}
}

// copyWithSpare copies a server load into memory with spare capacity, which belongs to the caller, too.
func copyWithSpare(l serverLoad) serverLoad {
	l.set = append(slices.Clone(l.set), task(4, 5, 6), task(-1, -2, -3))[:len(l.set)]
	l.jobs = append(slices.Clone(l.jobs), impl.Job{TaskID: 7, Release: 8, Deadline: 9, Exec: 10}, impl.Job{})[:len(l.jobs)]
	l.servers = append(slices.Clone(l.servers), server(3, 7), server(-4, 0))[:len(l.servers)]
	var lists [][]impl.Arrival
	for _, list := range append(slices.Clone(l.arrivals), []impl.Arrival{request(6, 7)}) {
		lists = append(lists, append(slices.Clone(list), request(5, 6), request(-7, 0))[:len(list)])
	}
	l.arrivals = lists[:len(l.arrivals)]
	return l
}

// includingSpare makes the spare capacity a part of the slices.
func includingSpare(l serverLoad) serverLoad {
	l.set, l.jobs, l.servers = l.set[:len(l.set)+2], l.jobs[:len(l.jobs)+2], l.servers[:len(l.servers)+2]
	var lists [][]impl.Arrival
	for _, list := range l.arrivals[:len(l.arrivals)+1] {
		lists = append(lists, list[:len(list)+2])
	}
	l.arrivals = lists
	return l
}

func equalLoads(a, b serverLoad) bool {
	return slices.Equal(a.set, b.set) && slices.Equal(a.jobs, b.jobs) && slices.Equal(a.servers, b.servers) && slices.EqualFunc(a.arrivals, b.arrivals, slices.Equal[[]impl.Arrival])
}

// callServerFunctions calls all functions of the chapter and fills the result, spare capacity included, with other numbers.
func callServerFunctions(l serverLoad) {
	impl.ServersValid(l.servers)
	for _, list := range l.arrivals {
		impl.ArrivalsLegal(list)
	}
	impl.ServersFeasible(l.set, l.servers)
	r := l.run()
	overwrite(r.Jobs.Run)
	overwrite(r.Jobs.Finish)
	overwrite(r.Chosen)
	for _, served := range r.Served {
		overwrite(served)
	}
	clear(r.Served[:cap(r.Served)])
}

func TestServerFunctionsDoNotWriteToArguments(t *testing.T) {
	var loads []serverLoad
	for i, l := range serverLoads() {
		if i%5 == 0 {
			loads = append(loads, l)
		}
	}
	fine := [][]impl.Arrival{{request(0, 3), request(2, 1)}}
	for _, set := range invalidSets() {
		loads = append(loads, serverLoad{set, nil, []impl.Server{server(1, 4)}, fine})
	}
	for _, jobs := range illegalPatterns() {
		loads = append(loads, serverLoad{pairSet(), jobs, []impl.Server{server(1, 4)}, fine})
	}
	for _, servers := range invalidServerLists() {
		loads = append(loads, serverLoad{pairSet(), nil, servers, slices.Repeat(fine, len(servers))})
	}
	for _, bad := range illegalRequests() {
		loads = append(loads, serverLoad{pairSet(), nil, []impl.Server{server(1, 4)}, [][]impl.Arrival{bad}})
	}
	for _, l := range loads {
		argument, untouched := copyWithSpare(l), copyWithSpare(l)
		callServerFunctions(argument)
		if !equalLoads(includingSpare(argument), includingSpare(untouched)) {
			t.Fatalf("%v became %v", includingSpare(untouched), includingSpare(argument))
		}
	}
}

func TestServerRunsShareNoMemory(t *testing.T) {
	set := pairSet()
	l := serverLoad{set, synchronousTo(set, 24), []impl.Server{server(1, 4), server(2, 3)}, [][]impl.Arrival{{request(0, 3), request(2, 4)}, {request(1, 5), request(1, 1)}}}
	want := serversByScan(l, &sights{})
	slicesOf := func(r impl.ServerRun) [][]int {
		return [][]int{r.Jobs.Run, r.Jobs.Finish, r.Chosen, r.Served[0], r.Served[1]}
	}
	for i := range slicesOf(want) {
		kept, spent := l.run(), l.run()
		overwrite(slicesOf(spent)[i])
		for k, part := range slicesOf(spent) {
			if k != i && !slices.Equal(part, slicesOf(want)[k]) {
				t.Fatalf("the parts %d and %d of a result share memory", i, k)
			}
		}
		clear(spent.Served[:cap(spent.Served)])
		if !equalRuns(kept, want) {
			t.Fatal("two results share memory")
		}
	}
	r := l.run()
	clear(l.set)
	clear(l.jobs)
	clear(l.servers)
	clear(l.arrivals[0])
	clear(l.arrivals)
	if !equalRuns(r, want) {
		t.Fatal("a result shares memory with an argument")
	}
}

func TestRequestsWaitOnlyBehindOlderOnes(t *testing.T) {
	// A request that arrives later does not change when those before it finish.
	for i, l := range serverLoads() {
		if len(l.servers) != 1 || len(l.arrivals[0]) == 0 || i%3 != 0 {
			continue
		}
		list, whole := l.arrivals[0], l.run().Served[0]
		for n := range len(list) {
			l.arrivals = [][]impl.Arrival{list[:n]}
			if got := l.run().Served[0]; !slices.Equal(got, whole[:n]) {
				t.Fatalf("%v finish at %v, with later ones at %v", list[:n], got, whole[:n])
			}
		}
	}
}
