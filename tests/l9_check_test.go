package tests

import (
	"math"
	"slices"
	"testing"

	"loop.example/deadlinescheduler/impl"
)

// timetable is what CheckSchedule takes.
type timetable struct {
	set  []impl.Task
	jobs []impl.Job
	run  []int
}

func (x timetable) with(run []int) timetable {
	x.run = run
	return x
}

// changed has another entry in one tick.
func (x timetable) changed(now, entry int) timetable {
	run := slices.Clone(x.run)
	run[now] = entry
	return x.with(run)
}

// verdict is what CheckSchedule returns.
type verdict struct {
	code, tick int
}

func (x timetable) verdict() verdict {
	code, tick := impl.CheckSchedule(x.set, x.jobs, x.run)
	return verdict{code, tick}
}

func (x timetable) check(t *testing.T, want verdict) {
	t.Helper()
	if got := x.verdict(); got != want {
		t.Fatalf("CheckSchedule(%v, %v, %v) = %v, want %v", x.set, x.jobs, x.run, got, want)
	}
}

// lastTicks has the tick in which a job gets the last tick of its execution time, 120 if it does not.
func lastTicks(jobs []impl.Job, run []int) []int {
	var last []int
	for i, job := range jobs {
		left, tick := job.Exec, 120
		for now, entry := range run {
			if entry == i {
				left--
			}
			if left == 0 {
				tick = now
				break
			}
		}
		last = append(last, tick)
	}
	return last
}

// byLastTicks finds in every tick all violations, and returns the first one. The set is valid.
func (x timetable) byLastTicks() verdict {
	if !isLegal(x.set, x.jobs) {
		return verdict{1, 0}
	}
	if len(x.run) != 120 {
		return verdict{2, 0}
	}
	last := lastTicks(x.jobs, x.run)
	for now, entry := range x.run {
		isJob := 0 <= entry && entry < len(x.jobs)
		unfit := entry != -1 && (!isJob || now < x.jobs[entry].Release || now > last[entry])
		idle, overtaken, late := false, false, false
		for i, job := range x.jobs {
			ready := job.Release <= now && now <= last[i]
			idle = idle || ready && entry == -1
			overtaken = overtaken || ready && isJob && job.Deadline < x.jobs[entry].Deadline
			late = late || job.Deadline-1 == now && now < last[i]
		}
		if at := slices.Index([]bool{unfit, idle, overtaken, late}, true); at != -1 {
			return verdict{3 + at, now}
		}
	}
	return verdict{0, 0}
}

// runByChoice lets a function choose the entry of every tick, when it is told which jobs are released and unfinished.
func runByChoice(jobs []impl.Job, choose func(now int, ready []int) int) []int {
	var run []int
	done := make([]int, len(jobs))
	for now := range 120 {
		var ready []int
		for i, job := range jobs {
			if job.Release <= now && done[i] < job.Exec {
				ready = append(ready, i)
			}
		}
		entry := choose(now, ready)
		run = append(run, entry)
		if entry >= 0 && entry < len(jobs) {
			done[entry]++
		}
	}
	return run
}

// urgent keeps the jobs with the earliest deadline.
func urgent(jobs []impl.Job, ready []int) []int {
	earliest := math.MaxInt
	for _, i := range ready {
		earliest = min(earliest, jobs[i].Deadline)
	}
	return slices.DeleteFunc(slices.Clone(ready), func(i int) bool { return jobs[i].Deadline > earliest })
}

// edfRuns has earliest-deadline-first schedules: ties go to the lowest index, to the highest one, and to any.
func edfRuns(jobs []impl.Job, s *sequence) [][]int {
	var runs [][]int
	for _, pick := range []func(n int) int{func(int) int { return 0 }, func(n int) int { return n - 1 }, s.below} {
		runs = append(runs, runByChoice(jobs, func(_ int, ready []int) int {
			first := urgent(jobs, ready)
			if len(first) == 0 {
				return -1
			}
			return first[pick(len(first))]
		}))
	}
	return runs
}

// otherRuns has schedules that are mostly at fault: of other policies, with some wrong entries, and of wrong entries alone.
func otherRuns(jobs []impl.Job, s *sequence) [][]int {
	one := func(ready []int, pick func(n int) int) int {
		if len(ready) == 0 {
			return -1
		}
		return ready[pick(len(ready))]
	}
	wrong := func(ready []int) int {
		return []int{-1, -1, one(ready, s.below), s.below(len(jobs) + 1), len(jobs), -2, math.MaxInt, math.MinInt}[s.below(8)]
	}
	careless := func(every int) []int {
		return runByChoice(jobs, func(_ int, ready []int) int {
			if s.below(every) == 0 {
				return wrong(ready)
			}
			return one(urgent(jobs, ready), s.below)
		})
	}
	return [][]int{
		slices.Repeat([]int{-1}, 120),
		runByChoice(jobs, func(_ int, ready []int) int { return one(ready, func(int) int { return 0 }) }),
		runByChoice(jobs, func(_ int, ready []int) int { return one(ready, func(n int) int { return n - 1 }) }),
		runByChoice(jobs, func(_ int, ready []int) int { return one(ready, s.below) }),
		careless(120),
		careless(60),
		careless(20),
		runByChoice(jobs, func(_ int, ready []int) int { return wrong(ready) }),
	}
}

// timetables has right and wrong schedules for a part of the workloads.
func timetables() []timetable {
	s := &sequence{state: 9}
	var list []timetable
	for i, w := range workloads() {
		if i%17 != 0 {
			continue
		}
		for _, run := range slices.Concat(edfRuns(w.jobs, s), otherRuns(w.jobs, s)) {
			list = append(list, timetable{w.set, w.jobs, run})
		}
	}
	return list
}

// smallLoads has legal patterns of three jobs each in the first six ticks: with ties, without slack, with a late job, and with a preemption.
func smallLoads() []workload {
	ties := []impl.Task{task(2, 6, 6), task(2, 6, 6), task(1, 4, 6)}
	tight := []impl.Task{task(2, 2, 12), task(3, 5, 12), task(1, 1, 12)}
	late := []impl.Task{task(2, 3, 12), task(2, 3, 12), task(2, 4, 12)}
	return []workload{
		{ties, []impl.Job{jobOf(ties, 0, 0, 2), jobOf(ties, 1, 0, 2), jobOf(ties, 2, 2, 1)}},
		{ties, []impl.Job{jobOf(ties, 2, 0, 1), jobOf(ties, 0, 1, 2), jobOf(ties, 1, 1, 2)}},
		{tight, []impl.Job{jobOf(tight, 1, 0, 3), jobOf(tight, 0, 1, 1), jobOf(tight, 2, 4, 1)}},
		{tight, []impl.Job{jobOf(tight, 1, 0, 3), jobOf(tight, 0, 1, 2), jobOf(tight, 2, 5, 1)}},
		{late, []impl.Job{jobOf(late, 0, 0, 2), jobOf(late, 1, 0, 2), jobOf(late, 2, 0, 1)}},
		{late, []impl.Job{jobOf(late, 2, 0, 2), jobOf(late, 0, 1, 1), jobOf(late, 1, 1, 1)}},
	}
}

// eachSmallTimetable has every sequence of entries of six ticks, from the given one on, with idling around them. The function must not keep the schedule.
func eachSmallTimetable(from int, f func(x timetable)) {
	for _, w := range smallLoads() {
		jobs := slices.Clone(w.jobs)
		for i := range jobs {
			jobs[i].Release += from
			jobs[i].Deadline += from
		}
		run := slices.Repeat([]int{-1}, 120)
		var fill func(now int)
		fill = func(now int) {
			if now == from+6 {
				f(timetable{w.set, jobs, run})
				return
			}
			for entry := -1; entry <= 3; entry++ {
				run[now] = entry
				fill(now + 1)
			}
		}
		fill(from)
	}
}

func TestCheckCodes(t *testing.T) {
	codes := []int{impl.CheckOk, impl.CheckInput, impl.CheckLength, impl.CheckJob, impl.CheckIdle, impl.CheckPriority, impl.CheckLate}
	if !slices.Equal(codes, ascending(7)) {
		t.Fatal(codes)
	}
}

func TestCheckerSeesEveryKindOfSchedule(t *testing.T) {
	var codes, first, last [7]int
	severalLate, dueAtTheEnd, dueAfterTheEnd, otherTies := 0, 0, 0, 0
	for _, x := range timetables() {
		v := x.byLastTicks()
		codes[v.code]++
		switch {
		case v.code != 0 && v.tick == 0:
			first[v.code]++
		case v.tick == 119:
			last[v.code]++
		}
		lates := 0
		for i, tick := range lastTicks(x.jobs, x.run) {
			if d := x.jobs[i].Deadline; v.code == 6 && d == v.tick+1 && tick >= d {
				lates++
			} else if v.code == 0 && d == 120 {
				dueAtTheEnd++
			} else if v.code == 0 && d > 120 && tick == 120 {
				dueAfterTheEnd++
			}
		}
		if lates > 1 {
			severalLate++
		}
		if v.code == 0 && !slices.Equal(x.run, edfByScan(x.jobs).Run) {
			otherTies++
		}
	}
	if min(codes[0], codes[3], codes[4], codes[5], codes[6]) < 200 || min(first[3], first[4], first[5], first[6]) < 5 || min(last[3], last[4], last[5], last[6]) < 3 {
		t.Fatal(codes, first, last)
	}
	if min(severalLate, dueAtTheEnd, dueAfterTheEnd, otherTies) < 50 {
		t.Fatal(severalLate, dueAtTheEnd, dueAfterTheEnd, otherTies)
	}
}

func TestCheckScheduleFollowsTheDocument(t *testing.T) {
	for _, x := range timetables() {
		x.check(t, x.byLastTicks())
	}
}

func TestCheckScheduleOfEverySmallSchedule(t *testing.T) {
	// From tick 114 on, the last one is the last of the simulation, and some deadlines are behind it.
	for _, from := range []int{0, 57, 114} {
		var codes [7]int
		eachSmallTimetable(from, func(x timetable) {
			want := x.byLastTicks()
			x.check(t, want)
			codes[want.code]++
		})
		if min(codes[0], codes[3], codes[4], codes[5], codes[6]) < 5 || codes[1]+codes[2] != 0 {
			t.Fatal(codes)
		}
	}
}

func TestCheckScheduleWithOneWrongEntry(t *testing.T) {
	var codes [7]int
	s := &sequence{state: 19}
	for i, w := range workloads() {
		if i%397 != 0 {
			continue
		}
		x := timetable{w.set, w.jobs, impl.RunEdf(w.set, w.jobs).Run}
		for now := range 120 {
			n := len(w.jobs)
			// What runs soon is often ready already.
			soon := []int{x.run[min(now+1, 119)], x.run[min(now+3, 119)], x.run[min(now+5, 119)]}
			for _, entry := range append(soon, -2, -1, 0, n-1, n, n+1, s.below(n+1), s.below(n+1), math.MaxInt, math.MinInt) {
				y := x.changed(now, entry)
				want := y.byLastTicks()
				y.check(t, want)
				codes[want.code]++
			}
		}
	}
	if min(codes[0], codes[3], codes[4], codes[5], codes[6]) < 100 {
		t.Fatal(codes)
	}
}

func TestP16TheScheduleOfAFeasibleSetIsAccepted(t *testing.T) {
	accepted := 0
	for i, set := range demandSets() {
		if firstAbove(dueBy(set)) != -1 {
			continue
		}
		for _, jobs := range patterns(set, i) {
			timetable{set, jobs, impl.RunEdf(set, jobs).Run}.check(t, verdict{0, 0})
			accepted++
		}
	}
	if accepted < 5000 {
		t.Fatal(accepted)
	}
}

func TestP16AcceptedIfAndOnlyIfNoDeadlineIsMissed(t *testing.T) {
	accepted, rejected := 0, 0
	for _, w := range workloads() {
		schedule := impl.RunEdf(w.set, w.jobs)
		x := timetable{w.set, w.jobs, schedule.Run}
		missed := impl.Missed(w.jobs, schedule)
		if len(missed) == 0 {
			x.check(t, verdict{0, 0})
			accepted++
			continue
		}
		earliest := 120
		for _, i := range missed {
			earliest = min(earliest, w.jobs[i].Deadline)
		}
		x.check(t, verdict{6, earliest - 1})
		rejected++
	}
	if min(accepted, rejected) < 1000 {
		t.Fatal(accepted, rejected)
	}
}

func TestP16TiesMayGoEitherWay(t *testing.T) {
	s := &sequence{state: 16}
	different := 0
	for i, set := range demandSets() {
		if i%5 != 0 || firstAbove(dueBy(set)) != -1 {
			continue
		}
		for _, jobs := range patterns(set, i) {
			runs := edfRuns(jobs, s)
			for _, run := range runs {
				timetable{set, jobs, run}.check(t, verdict{0, 0})
			}
			if !slices.Equal(runs[0], runs[1]) {
				different++
			}
		}
	}
	if different < 500 {
		t.Fatal(different)
	}
}

// checkDeadlinesMet expects that every job with a deadline of at most 120 runs as long as it must between its release and its deadline, and that no job runs at another time or for too long.
func checkDeadlinesMet(t *testing.T, x timetable) {
	t.Helper()
	for i, job := range x.jobs {
		inside, outside := 0, 0
		for now, entry := range x.run {
			switch {
			case entry != i:
			case job.Release <= now && now < job.Deadline:
				inside++
			default:
				outside++
			}
		}
		if job.Deadline <= 120 && inside != job.Exec || outside > 0 || inside > job.Exec {
			t.Fatalf("CheckSchedule accepts (%v, %v, %v): job %d runs for %d ticks in time", x.set, x.jobs, x.run, i, inside)
		}
	}
}

func TestP17AnAcceptedScheduleMeetsEveryDeadline(t *testing.T) {
	accepted := 0
	for _, x := range timetables() {
		if x.verdict().code == impl.CheckOk {
			checkDeadlinesMet(t, x)
			accepted++
		}
	}
	for _, from := range []int{0, 114} {
		eachSmallTimetable(from, func(x timetable) {
			if x.verdict().code == impl.CheckOk {
				checkDeadlinesMet(t, x)
				accepted++
			}
		})
	}
	if accepted < 1000 {
		t.Fatal(accepted)
	}
}

func TestP17ATickMoreOrLessIsRejected(t *testing.T) {
	less, more := 0, 0
	s := &sequence{state: 17}
	for i, w := range workloads() {
		if i%41 != 0 || len(missedBy(w.jobs, edfByScan(w.jobs).Run)) > 0 {
			continue
		}
		dueInTime := func(entry int) bool { return entry != -1 && w.jobs[entry].Deadline <= 120 }
		x := timetable{w.set, w.jobs, impl.RunEdf(w.set, w.jobs).Run}
		for now, entry := range x.run {
			for _, other := range []int{-1, s.below(len(w.jobs)+1) - 1, x.run[max(now-1, 0)], x.run[min(now+1, 119)]} {
				if other == entry || !dueInTime(entry) && !dueInTime(other) {
					continue
				}
				if y := x.changed(now, other); y.verdict().code == impl.CheckOk {
					t.Fatalf("CheckSchedule accepts (%v, %v, %v)", y.set, y.jobs, y.run)
				}
				if dueInTime(entry) {
					less++
				}
				if dueInTime(other) {
					more++
				}
			}
		}
	}
	if min(less, more) < 5000 {
		t.Fatal(less, more)
	}
}

func TestP75IdlingInPlaceOfAJobIsRejected(t *testing.T) {
	replaced := 0
	s := &sequence{state: 75}
	for i, w := range workloads() {
		if i%11 != 0 {
			continue
		}
		for _, run := range edfRuns(w.jobs, s) {
			x := timetable{w.set, w.jobs, run}
			if x.verdict().code != impl.CheckOk {
				continue
			}
			for now, entry := range run {
				if entry != -1 {
					x.changed(now, -1).check(t, verdict{4, now})
					replaced++
				}
			}
		}
	}
	for _, from := range []int{0, 114} {
		eachSmallTimetable(from, func(x timetable) {
			if x.verdict().code != impl.CheckOk {
				return
			}
			for now, entry := range x.run {
				if entry != -1 {
					x.changed(now, -1).check(t, verdict{4, now})
					replaced++
				}
			}
		})
	}
	if replaced < 10000 {
		t.Fatal(replaced)
	}
}

// runsOfWrongLength has parts and extensions of a schedule: without its last tick, empty, longer, and of entries that are no jobs.
func runsOfWrongLength(run []int) [][]int {
	return [][]int{
		run[:119],
		run[1:],
		run[:1],
		nil,
		{},
		append(slices.Clone(run), -1),
		append(slices.Clone(run), 0),
		slices.Concat(run, run),
		slices.Repeat([]int{-1}, 119),
		slices.Repeat([]int{-2}, 119),
		slices.Repeat([]int{math.MaxInt}, 119),
		slices.Repeat([]int{math.MinInt}, 121),
		make([]int, 119),
		make([]int, 100000),
	}
}

func TestP123AScheduleOfTheWrongLengthIsRejected(t *testing.T) {
	for i, x := range timetables() {
		x.with(x.run[:119]).check(t, verdict{2, 0})
		x.with(append(slices.Clone(x.run), -1)).check(t, verdict{2, 0})
		if i%53 == 0 {
			for _, run := range runsOfWrongLength(x.run) {
				x.with(run).check(t, verdict{2, 0})
			}
		}
	}
	for n := range 300 {
		want := verdict{2, 0}
		if n == 120 {
			want = verdict{0, 0}
		}
		timetable{pairSet(), nil, slices.Repeat([]int{-1}, n)}.check(t, want)
	}
}

func TestP123AnIllegalPatternIsRejectedFirst(t *testing.T) {
	idle := slices.Repeat([]int{-1}, 120)
	rejected := func(set []impl.Task, jobs []impl.Job) {
		t.Helper()
		for _, run := range append(runsOfWrongLength(idle), idle, make([]int, 120), slices.Repeat([]int{-2}, 120)) {
			timetable{set, jobs, run}.check(t, verdict{1, 0})
		}
	}
	for _, jobs := range illegalPatterns() {
		rejected(pairSet(), jobs)
		rejected(nil, jobs)
	}
	for _, set := range invalidSets() {
		rejected(set, nil)
		rejected(set, []impl.Job{{TaskID: 0, Release: 0, Deadline: 2, Exec: 1}})
	}
	for i, w := range workloads() {
		if i%331 != 0 {
			continue
		}
		run := impl.RunEdf(w.set, w.jobs).Run
		for _, jobs := range variants(w.jobs) {
			if isLegal(w.set, jobs) {
				timetable{w.set, jobs, run[:119]}.check(t, verdict{2, 0})
				continue
			}
			timetable{w.set, jobs, run}.check(t, verdict{1, 0})
			timetable{w.set, jobs, run[:119]}.check(t, verdict{1, 0})
			timetable{w.set, jobs, nil}.check(t, verdict{1, 0})
		}
	}
}

// checkExample is a schedule that idles but for some entries from tick start on.
type checkExample struct {
	jobs  []impl.Job
	start int
	run   []int
	want  verdict
}

func checkExamples(t *testing.T, set []impl.Task, list []checkExample) {
	t.Helper()
	for _, e := range list {
		run := slices.Repeat([]int{-1}, 120)
		copy(run[e.start:], e.run)
		timetable{set, e.jobs, run}.check(t, e.want)
	}
}

func TestCheckScheduleWithoutJobs(t *testing.T) {
	for _, set := range [][]impl.Task{nil, {}, pairSet()} {
		checkExamples(t, set, []checkExample{
			{nil, 0, nil, verdict{0, 0}},
			{[]impl.Job{}, 0, nil, verdict{0, 0}},
			{nil, 0, []int{0}, verdict{3, 0}},
			{nil, 119, []int{0}, verdict{3, 119}},
			{nil, 60, []int{-2}, verdict{3, 60}},
		})
	}
}

func TestCheckScheduleThatIdlesThroughout(t *testing.T) {
	set := pairSet()
	for release := range 120 {
		checkExamples(t, set, []checkExample{
			{[]impl.Job{jobOf(set, 0, release, 1)}, 0, nil, verdict{4, release}},
			{[]impl.Job{jobOf(set, 1, release, 3)}, 0, nil, verdict{4, release}},
		})
	}
}

func TestCheckScheduleOfExactExecutions(t *testing.T) {
	// Without slack: a job starts at its release and ends in the tick before its deadline.
	set := []impl.Task{task(3, 3, 12), task(3, 4, 12), task(1, 1, 12)}
	alone := []impl.Job{jobOf(set, 0, 5, 3)}
	both := []impl.Job{jobOf(set, 0, 5, 3), jobOf(set, 1, 5, 1)}
	overload := []impl.Job{jobOf(set, 0, 5, 3), jobOf(set, 1, 5, 2)}
	checkExamples(t, set, []checkExample{
		{alone, 5, []int{0, 0, 0}, verdict{0, 0}},
		{alone, 5, []int{0, 0, 0, 0}, verdict{3, 8}},
		{alone, 5, []int{0, 0}, verdict{4, 7}},
		{alone, 5, []int{0, -1, 0, 0}, verdict{4, 6}},
		{alone, 6, []int{0, 0, 0}, verdict{4, 5}},
		{alone, 4, []int{0, 0, 0}, verdict{3, 4}},
		{both, 5, []int{0, 0, 0, 1}, verdict{0, 0}},
		{both, 5, []int{0, 0, 1, 0}, verdict{5, 7}},
		{both, 5, []int{1, 0, 0, 0}, verdict{5, 5}},
		{both, 5, []int{0, 0, 0, 0}, verdict{3, 8}},
		{both, 5, []int{0, 0, 0, 1, 1}, verdict{3, 9}},
		// A job that is finished one tick late.
		{overload, 5, []int{0, 0, 0, 1, 1}, verdict{6, 8}},
		{[]impl.Job{jobOf(set, 0, 4, 3), jobOf(set, 2, 5, 1)}, 4, []int{0, 1, 0, 0}, verdict{6, 6}},
		{[]impl.Job{jobOf(set, 0, 4, 2), jobOf(set, 2, 5, 1)}, 4, []int{0, 1, 0}, verdict{0, 0}},
	})
}

func TestCheckScheduleWithTies(t *testing.T) {
	set := []impl.Task{task(2, 4, 12), task(2, 4, 12), task(1, 5, 12)}
	tied := []impl.Job{jobOf(set, 0, 0, 2), jobOf(set, 1, 0, 2)}
	three := append(slices.Clone(tied), jobOf(set, 2, 0, 1))
	for _, order := range [][]int{{0, 0, 1, 1}, {1, 1, 0, 0}, {0, 1, 0, 1}, {1, 0, 1, 0}, {0, 1, 1, 0}, {1, 0, 0, 1}} {
		checkExamples(t, set, []checkExample{
			{tied, 0, order, verdict{0, 0}},
			{three, 0, append(slices.Clone(order), 2), verdict{0, 0}},
			{three, 0, append([]int{2}, order...), verdict{5, 0}},
			{three, 0, append(slices.Clone(order[:3]), 2), verdict{5, 3}},
		})
	}
	// The tie is between jobs that are released at different times.
	apart := []impl.Task{task(3, 6, 12), task(1, 4, 12)}
	jobs := []impl.Job{jobOf(apart, 0, 3, 3), jobOf(apart, 1, 5, 1)}
	for _, order := range [][]int{{0, 0, 0, 1}, {0, 0, 1, 0}} {
		checkExamples(t, apart, []checkExample{{jobs, 3, order, verdict{0, 0}}})
	}
}

func TestCheckScheduleAtTheEnd(t *testing.T) {
	set := []impl.Task{task(2, 2, 12), task(2, 2, 12), task(2, 3, 12), task(1, 1, 12), task(1, 1, 12)}
	job := func(id, release, exec int) impl.Job { return jobOf(set, id, release, exec) }
	checkExamples(t, set, []checkExample{
		// Deadlines of exactly 120.
		{[]impl.Job{job(0, 118, 2)}, 118, []int{0, 0}, verdict{0, 0}},
		{[]impl.Job{job(0, 118, 2)}, 118, []int{0}, verdict{4, 119}},
		{[]impl.Job{job(0, 118, 1)}, 118, []int{0, 0}, verdict{3, 119}},
		{[]impl.Job{job(0, 118, 1), job(1, 118, 1)}, 118, []int{0, 1}, verdict{0, 0}},
		{[]impl.Job{job(0, 118, 1), job(1, 118, 1)}, 118, []int{1, 0}, verdict{0, 0}},
		{[]impl.Job{job(0, 118, 2), job(1, 118, 1)}, 118, []int{0, 0}, verdict{6, 119}},
		{[]impl.Job{job(0, 118, 2), job(1, 118, 1)}, 118, []int{0, 1}, verdict{6, 119}},
		{[]impl.Job{job(2, 117, 2), job(0, 118, 2)}, 117, []int{0, 1, 1}, verdict{6, 119}},
		// Deadlines of 121.
		{[]impl.Job{job(2, 118, 2)}, 118, []int{0, 0}, verdict{0, 0}},
		{[]impl.Job{job(2, 118, 2)}, 118, []int{0}, verdict{4, 119}},
		{[]impl.Job{job(0, 118, 2), job(2, 118, 2)}, 118, []int{0, 0}, verdict{0, 0}},
		{[]impl.Job{job(0, 118, 1), job(2, 118, 2)}, 118, []int{0, 1}, verdict{0, 0}},
		{[]impl.Job{job(0, 118, 2), job(2, 118, 2)}, 118, []int{0, 1}, verdict{5, 119}},
		{[]impl.Job{job(0, 119, 2), job(1, 119, 2)}, 119, []int{0}, verdict{0, 0}},
		{[]impl.Job{job(0, 119, 2), job(1, 119, 2)}, 119, []int{1}, verdict{0, 0}},
		{[]impl.Job{job(2, 118, 2), job(0, 119, 1)}, 118, []int{0, 1}, verdict{0, 0}},
		// Releases at 119.
		{[]impl.Job{job(3, 119, 1)}, 119, []int{0}, verdict{0, 0}},
		{[]impl.Job{job(3, 119, 1)}, 118, []int{0}, verdict{3, 118}},
		{[]impl.Job{job(3, 119, 1)}, 119, nil, verdict{4, 119}},
		{[]impl.Job{job(3, 119, 1)}, 119, []int{1}, verdict{3, 119}},
		{[]impl.Job{job(2, 119, 2)}, 119, []int{0}, verdict{0, 0}},
		{[]impl.Job{job(2, 119, 2)}, 119, nil, verdict{4, 119}},
		{[]impl.Job{job(2, 119, 1), job(3, 119, 1)}, 119, []int{0}, verdict{5, 119}},
		{[]impl.Job{job(2, 119, 1), job(3, 119, 1)}, 119, []int{1}, verdict{0, 0}},
		{[]impl.Job{job(3, 119, 1), job(4, 119, 1)}, 119, []int{0}, verdict{6, 119}},
		{[]impl.Job{job(3, 119, 1), job(4, 119, 1)}, 119, []int{1}, verdict{6, 119}},
	})
}

func TestCheckScheduleWithSeveralLateJobs(t *testing.T) {
	set := slices.Repeat([]impl.Task{task(2, 3, 12)}, 5)
	for n := 2; n <= 5; n++ {
		var jobs []impl.Job
		for id := range n {
			jobs = append(jobs, jobOf(set, id, 20, 2))
		}
		checkExamples(t, set, []checkExample{
			{jobs, 20, []int{0, 0, 1, 1}, verdict{6, 22}},
			{jobs, 20, []int{0, 1, 0, 1}, verdict{6, 22}},
			{jobs, 20, []int{1, 1, 0, 0}, verdict{6, 22}},
			{jobs, 20, []int{0, 1, n - 1, 1}, verdict{6, 22}},
		})
	}
}

func TestTheFirstTickAtFaultCounts(t *testing.T) {
	set := pairSet()
	jobs := synchronousTo(set, 12)
	checkExamples(t, set, []checkExample{
		{jobs, 0, []int{0, 0, 1, 1, 1, 2, 2, 3, 3, 3, 4, 4}, verdict{0, 0}},
		{jobs, 0, []int{0, 0, 1, 1, 1, 2, 2, 3, -1, 3, 4, 4, 99}, verdict{4, 8}},
		{jobs, 0, []int{0, 0, 1, 2, 1, 1, 2, 9}, verdict{3, 3}},
		{jobs, 0, []int{1, 0, 0, 9}, verdict{5, 0}},
		{jobs, 0, []int{0, 0, 1, 1, 1, -1, 9}, verdict{4, 5}},
		{jobs, 0, []int{0, 0, 1, 1, 1, 2, 2, 4}, verdict{3, 7}},
		{jobs, 0, []int{0, 0, 1, 1, 1, 2, 2, 3, 4, 4, 3, 3}, verdict{0, 0}},
		{jobs, 0, []int{0, 0, 1, 1, 2, 2, 1}, verdict{5, 4}},
		{jobs, 0, []int{0, 0, 1, 1, 1, 2, 2, 3, 3, 3, 4, 4, 4}, verdict{3, 12}},
	})
	// What follows a missed deadline does not matter.
	tight := []impl.Task{task(2, 4, 4), task(3, 4, 6)}
	late := []impl.Job{jobOf(tight, 0, 0, 2), jobOf(tight, 1, 0, 3)}
	checkExamples(t, tight, []checkExample{
		{late, 0, []int{0, 0, 1, 1, 1}, verdict{6, 3}},
		{late, 0, []int{0, 0, 1, 1, 9}, verdict{6, 3}},
		{late, 0, []int{0, 0, 1, 1}, verdict{6, 3}},
		{late, 0, []int{1, 1, 1, 0, 0}, verdict{6, 3}},
	})
}

func TestOrderOfTheCodesInOneTick(t *testing.T) {
	set := []impl.Task{task(2, 3, 12), task(2, 3, 12), task(2, 6, 12)}
	jobs := []impl.Job{jobOf(set, 0, 0, 2), jobOf(set, 1, 0, 1), jobOf(set, 2, 0, 2)}
	overload := []impl.Job{jobOf(set, 0, 0, 2), jobOf(set, 1, 0, 2), jobOf(set, 2, 0, 2), jobOf(set, 0, 12, 1)}
	checkExamples(t, set, []checkExample{
		// The entry is no job that can run: the processor idles as well, a deadline is missed, or jobs with earlier deadlines wait.
		{jobs, 0, []int{-2}, verdict{3, 0}},
		{jobs, 0, []int{3}, verdict{3, 0}},
		{jobs, 0, []int{0, 0, -2}, verdict{3, 2}},
		{jobs, 0, []int{0, 0, 0}, verdict{3, 2}},
		{jobs, 0, []int{0, 0, 3}, verdict{3, 2}},
		{jobs, 0, []int{0, 0, math.MaxInt}, verdict{3, 2}},
		{jobs, 0, []int{0, 0, math.MinInt}, verdict{3, 2}},
		{overload, 0, []int{0, 0, 3}, verdict{3, 2}},
		{overload, 0, []int{0, 0, 0}, verdict{3, 2}},
		// The processor idles in the tick in which a deadline is missed.
		{jobs, 0, []int{0, 0, -1, 1}, verdict{4, 2}},
		{overload, 0, []int{0, 0, -1, 1}, verdict{4, 2}},
		// A job with a later deadline runs in the tick in which another one's deadline is missed.
		{jobs, 0, []int{0, 0, 2, 1}, verdict{5, 2}},
		{jobs, 0, []int{0, 1, 2, 0}, verdict{5, 2}},
		{overload, 0, []int{0, 0, 2}, verdict{5, 2}},
		// The right job runs, and a deadline is missed.
		{overload, 0, []int{0, 0, 1}, verdict{6, 2}},
		{jobs, 0, []int{0, 0, 1, 2, 2}, verdict{0, 0}},
	})
}

func TestEntriesThatAreNoJobs(t *testing.T) {
	set := pairSet()
	jobs := []impl.Job{jobOf(set, 0, 2, 2), jobOf(set, 1, 7, 1)}
	good := []int{-1, -1, 0, 0, -1, -1, -1, 1, -1}
	checkExamples(t, set, []checkExample{{jobs, 0, good, verdict{0, 0}}})
	for now := range 120 {
		for _, entry := range []int{-2, -3, -120, math.MinInt, 2, 3, 60, 119, 120, math.MaxInt} {
			run := append(slices.Clone(good), slices.Repeat([]int{-1}, 120-len(good))...)
			run[now] = entry
			timetable{set, jobs, run}.check(t, verdict{3, now})
		}
	}
	checkExamples(t, set, []checkExample{
		// Jobs that are not released yet, and jobs that are finished.
		{jobs, 0, []int{0}, verdict{3, 0}},
		{jobs, 1, []int{0, 0, 0}, verdict{3, 1}},
		{jobs, 2, []int{0, 1}, verdict{3, 3}},
		{jobs, 2, []int{0, 0, 1}, verdict{3, 4}},
		{jobs, 2, []int{0, 0, -1, -1, 1}, verdict{3, 6}},
		{jobs, 2, []int{0, 0, 0}, verdict{3, 4}},
		{jobs, 2, []int{0, 0, -1, -1, -1, 0}, verdict{3, 7}},
		{jobs, 2, []int{0, 0, -1, -1, -1, 1, 1}, verdict{3, 8}},
		{jobs, 2, []int{0, 0, -1, -1, -1, 1, 0}, verdict{3, 8}},
	})
}

func TestShorterExecutionsEndEarlier(t *testing.T) {
	// A job ends after its actual execution time, whatever its task may take.
	set := []impl.Task{task(8, 12, 12)}
	for exec := 1; exec <= 8; exec++ {
		jobs := []impl.Job{jobOf(set, 0, 3, exec)}
		for n := range 10 {
			want := verdict{0, 0}
			if n < exec {
				want = verdict{4, 3 + n}
			} else if n > exec {
				want = verdict{3, 3 + exec}
			}
			checkExamples(t, set, []checkExample{{jobs, 3, make([]int, n), want}})
		}
	}
}

func TestCheckScheduleOfSixtyJobs(t *testing.T) {
	set := []impl.Task{task(1, 1, 1)}
	jobs := pattern(set, func(int) int { return 60 }, func() int { return 0 }, full)
	if len(jobs) != 60 || jobs[59].Deadline != 120 {
		t.Fatal(jobs)
	}
	x := timetable{set, jobs, append(slices.Repeat([]int{-1}, 60), ascending(60)...)}
	x.check(t, verdict{0, 0})
	for now := 60; now < 120; now++ {
		x.changed(now, -1).check(t, verdict{4, now})
		x.changed(now, (now-59)%60).check(t, verdict{3, now})
	}
}

// withSpare has spare capacity behind the slices.
func (x timetable) withSpare() timetable {
	x.set = append(slices.Clone(x.set), task(4, 5, 6), task(-1, -2, -3))[:len(x.set)]
	x.jobs = append(slices.Clone(x.jobs), impl.Job{TaskID: 7, Release: 8, Deadline: 9, Exec: 10}, impl.Job{})[:len(x.jobs)]
	x.run = append(slices.Clone(x.run), 7, -8)[:len(x.run)]
	return x
}

func (x timetable) equalWithSpare(y timetable) bool {
	return slices.Equal(x.set[:len(x.set)+2], y.set[:len(y.set)+2]) && slices.Equal(x.jobs[:len(x.jobs)+2], y.jobs[:len(y.jobs)+2]) && slices.Equal(x.run[:len(x.run)+2], y.run[:len(y.run)+2])
}

func TestCheckScheduleDoesNotWriteToArguments(t *testing.T) {
	idle := slices.Repeat([]int{-1}, 120)
	list := timetables()
	for _, jobs := range illegalPatterns() {
		list = append(list, timetable{pairSet(), jobs, idle})
	}
	for _, set := range invalidSets() {
		list = append(list, timetable{set, synchronousTo(pairSet(), 12), idle})
	}
	for _, x := range list {
		for _, run := range [][]int{x.run, x.run[:119], nil} {
			argument, untouched := x.with(run).withSpare(), x.with(run).withSpare()
			before, after := argument.verdict(), argument.verdict()
			if before != after || !argument.equalWithSpare(untouched) {
				t.Fatalf("%v became %v", untouched, argument)
			}
		}
	}
}
