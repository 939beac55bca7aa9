package tests

import (
	"cmp"
	"math"
	"slices"
	"testing"

	"loop.example/deadlinescheduler/impl"
)

// sequence is a fixed sequence of numbers that look random.
type sequence struct {
	state uint32
}

// below returns a number in 0..n-1.
func (s *sequence) below(n int) int {
	s.state = s.state*1664525 + 1013904223
	return int(s.state>>8) % n
}

func jobOf(set []impl.Task, id, release, exec int) impl.Job {
	return impl.Job{TaskID: id, Release: release, Deadline: release + set[id].Deadline, Exec: exec}
}

func sortJobs(jobs []impl.Job) {
	slices.SortFunc(jobs, func(a, b impl.Job) int {
		return cmp.Or(cmp.Compare(a.Release, b.Release), cmp.Compare(a.TaskID, b.TaskID))
	})
}

// pattern lists the first 60 jobs that are released before time 120. The functions choose the first release of a task, the time by which a release is later than it need be, and the execution time.
func pattern(set []impl.Task, first func(id int) int, delay func() int, exec func(cost int) int) []impl.Job {
	var jobs []impl.Job
	for id, x := range set {
		for release := first(id); release < 120; release += x.Period + delay() {
			jobs = append(jobs, jobOf(set, id, release, exec(x.Cost)))
		}
	}
	sortJobs(jobs)
	return jobs[:min(len(jobs), 60)]
}

// periodic releases all tasks together and then as often as possible, with full execution times.
func periodic(set []impl.Task) []impl.Job {
	return pattern(set, func(int) int { return 0 }, func() int { return 0 }, full)
}

func full(cost int) int {
	return cost
}

// patterns has legal release patterns: none at all, dense, late and sparse ones, with full, arbitrary and short execution times.
func patterns(set []impl.Task, seed int) [][]impl.Job {
	s := &sequence{state: uint32(seed)}
	anyExec := func(cost int) int { return 1 + s.below(cost) }
	early := func(int) int { return s.below(12) }
	late := func(int) int { return 90 + s.below(30) }
	return [][]impl.Job{
		nil,
		periodic(set),
		pattern(set, early, func() int { return 0 }, full),
		pattern(set, early, func() int { return s.below(2) * s.below(9) }, anyExec),
		pattern(set, func(int) int { return 0 }, func() int { return s.below(30) }, full),
		pattern(set, late, func() int { return 0 }, full),
		pattern(set, func(int) int { return 119 }, func() int { return 0 }, anyExec),
		pattern(set, early, func() int { return s.below(3) }, func(int) int { return 1 }),
	}
}

type workload struct {
	set  []impl.Task
	jobs []impl.Job
}

// workloads pairs a part of the sets with their patterns.
func workloads() []workload {
	var list []workload
	for i, set := range demandSets() {
		if len(set) > 0 && i%5 != 0 {
			continue
		}
		for _, jobs := range patterns(set, i) {
			list = append(list, workload{set, jobs})
		}
	}
	return list
}

// isLegal compares every job with every other one, in the words of the document.
func isLegal(set []impl.Task, jobs []impl.Job) bool {
	if len(jobs) > 60 {
		return false
	}
	for i, a := range jobs {
		if a.TaskID < 0 || a.TaskID >= len(set) || a.Release < 0 || a.Release > 119 {
			return false
		}
		x := set[a.TaskID]
		if a.Deadline-x.Deadline != a.Release || a.Exec < 1 || a.Exec > x.Cost {
			return false
		}
		for _, b := range jobs[:i] {
			if b.Release > a.Release || b.Release == a.Release && b.TaskID >= a.TaskID {
				return false
			}
			if b.TaskID == a.TaskID && a.Release-b.Release < x.Period {
				return false
			}
		}
	}
	return true
}

// runByScan looks through all jobs in every tick, and takes the first one that none comes before.
func runByScan(jobs []impl.Job, before func(a, b impl.Job) bool) impl.Schedule {
	s := impl.Schedule{Run: slices.Repeat([]int{-1}, 120), Finish: slices.Repeat([]int{-1}, len(jobs))}
	done := make([]int, len(jobs))
	for now := range 120 {
		best := -1
		for i, job := range jobs {
			if job.Release <= now && done[i] < job.Exec && (best == -1 || before(job, jobs[best])) {
				best = i
			}
		}
		if best == -1 {
			continue
		}
		s.Run[now] = best
		done[best]++
		if done[best] == jobs[best].Exec {
			s.Finish[best] = now + 1
		}
	}
	return s
}

func edfByScan(jobs []impl.Job) impl.Schedule {
	return runByScan(jobs, func(a, b impl.Job) bool { return a.Deadline < b.Deadline })
}

// missedBy lists the jobs that are late or unfinished, from the ticks in which they run and not from their finish times.
func missedBy(jobs []impl.Job, run []int) []int {
	var missed []int
	for i, job := range jobs {
		if job.Deadline > 120 {
			continue
		}
		done := 0
		for _, r := range run[:job.Deadline] {
			if r == i {
				done++
			}
		}
		if done < job.Exec {
			missed = append(missed, i)
		}
	}
	return missed
}

func equalSchedules(a, b impl.Schedule) bool {
	return slices.Equal(a.Run, b.Run) && slices.Equal(a.Finish, b.Finish)
}

// variants changes one field of one job of a pattern, removes or repeats a job, or exchanges two: most of them are illegal.
func variants(jobs []impl.Job) [][]impl.Job {
	var all [][]impl.Job
	change := func(i int, f func(j *impl.Job)) {
		other := slices.Clone(jobs)
		f(&other[i])
		all = append(all, other)
	}
	for i := range jobs {
		for _, by := range []int{-120, -1, 1, 120, math.MaxInt, math.MinInt} {
			change(i, func(j *impl.Job) { j.TaskID += by })
			change(i, func(j *impl.Job) { j.Release += by })
			change(i, func(j *impl.Job) { j.Deadline += by })
			change(i, func(j *impl.Job) { j.Exec += by })
			change(i, func(j *impl.Job) { j.Release += by; j.Deadline += by })
		}
		change(i, func(j *impl.Job) { *j = impl.Job{} })
		change(i, func(j *impl.Job) { j.Exec = 0 })
		change(i, func(j *impl.Job) { *j = jobs[0] })
		all = append(all, slices.Delete(slices.Clone(jobs), i, i+1), slices.Insert(slices.Clone(jobs), i, jobs[i]))
		other := slices.Clone(jobs)
		other[i], other[0] = other[0], other[i]
		all = append(all, other)
	}
	return all
}

// illegalPatterns has illegal patterns for the set of pairSet.
func illegalPatterns() [][]impl.Job {
	set := pairSet()
	return [][]impl.Job{
		{{TaskID: -1, Release: 0, Deadline: 4, Exec: 1}},
		{{TaskID: 2, Release: 0, Deadline: 4, Exec: 1}},
		{{TaskID: math.MinInt, Release: 0, Deadline: 4, Exec: 1}},
		{{TaskID: math.MaxInt, Release: 0, Deadline: 4, Exec: 1}},
		{jobOf(set, 0, -1, 1)},
		{jobOf(set, 0, 120, 1)},
		{{TaskID: 0, Release: math.MaxInt, Deadline: math.MinInt + 3, Exec: 1}},
		{{TaskID: 0, Release: math.MinInt, Deadline: math.MinInt + 4, Exec: 1}},
		{{TaskID: 0, Release: 0, Deadline: 3, Exec: 1}},
		{{TaskID: 0, Release: 0, Deadline: 5, Exec: 1}},
		{jobOf(set, 0, 0, 0)},
		{jobOf(set, 0, 0, -1)},
		{jobOf(set, 0, 0, 3)},
		{jobOf(set, 0, 0, math.MaxInt)},
		{jobOf(set, 1, 0, 1), jobOf(set, 0, 0, 1)},
		{jobOf(set, 1, 1, 1), jobOf(set, 0, 0, 1)},
		{jobOf(set, 0, 0, 1), jobOf(set, 0, 0, 1)},
		{jobOf(set, 0, 0, 1), jobOf(set, 0, 3, 1)},
		{jobOf(set, 0, 0, 1), jobOf(set, 1, 0, 1), jobOf(set, 1, 5, 1)},
		{{}},
		make([]impl.Job, 1000),
	}
}

func pairSet() []impl.Task {
	return []impl.Task{task(2, 4, 4), task(3, 6, 6)}
}

func TestSimulationLimits(t *testing.T) {
	if impl.MaxJobs != 60 || impl.MaxTime != 120 {
		t.Fatal(impl.MaxJobs, impl.MaxTime)
	}
}

func TestSimulationsSeeEveryKindOfPattern(t *testing.T) {
	none, most, ties, unfinished, beyond, idle, met, late := 0, 0, 0, 0, 0, 0, 0, 0
	for _, w := range workloads() {
		s := edfByScan(w.jobs)
		for i, job := range w.jobs {
			switch {
			case i > 0 && job.Deadline == w.jobs[i-1].Deadline:
				ties++
			case s.Finish[i] == -1:
				unfinished++
			case job.Deadline > 120:
				beyond++
			case s.Finish[i] == job.Deadline:
				met++
			case s.Finish[i] > job.Deadline:
				late++
			}
		}
		switch {
		case len(w.jobs) == 0:
			none++
		case len(w.jobs) == 60:
			most++
		case slices.Contains(s.Run, -1):
			idle++
		}
	}
	if min(none, most, ties, unfinished, beyond, idle, met, late) < 100 {
		t.Fatal(none, most, ties, unfinished, beyond, idle, met, late)
	}
}

func TestP48PrefixesAndShorterJobsAreLegal(t *testing.T) {
	for _, w := range workloads() {
		for n := range len(w.jobs) + 1 {
			if !impl.JobsLegal(w.set, w.jobs[:n]) {
				t.Fatalf("JobsLegal(%v, %v) = false", w.set, w.jobs[:n])
			}
		}
		for i := range w.jobs {
			shorter := slices.Clone(w.jobs)
			shorter[i].Exec = 1
			if !impl.JobsLegal(w.set, shorter) {
				t.Fatalf("JobsLegal(%v, %v) = false", w.set, shorter)
			}
		}
	}
}

func TestP48AReleaseOneTickTooEarlyIsIllegal(t *testing.T) {
	for i, set := range demandSets() {
		if i%5 != 0 {
			continue
		}
		for id, x := range set {
			for _, first := range []int{0, 1, 5, 119 - x.Period, 120 - x.Period} {
				jobs := []impl.Job{jobOf(set, id, first, 1), jobOf(set, id, first+x.Period, 1)}
				if got, want := impl.JobsLegal(set, jobs), first+x.Period < 120; got != want {
					t.Fatalf("JobsLegal(%v, %v) = %v", set, jobs, got)
				}
				jobs[1] = jobOf(set, id, first+x.Period-1, 1)
				if impl.JobsLegal(set, jobs) {
					t.Fatalf("JobsLegal(%v, %v) = true", set, jobs)
				}
				jobs = jobs[:1]
				for other := range set {
					if other != id {
						jobs = append(jobs, jobOf(set, other, min(first+x.Period-1, 119), 1))
					}
				}
				jobs = append(jobs, jobOf(set, id, first+x.Period-1, 1))
				sortJobs(jobs)
				if impl.JobsLegal(set, jobs) {
					t.Fatalf("JobsLegal(%v, %v) = true", set, jobs)
				}
			}
		}
	}
}

func TestP48EveryRuleIsChecked(t *testing.T) {
	legal, illegal := 0, 0
	for i, w := range workloads() {
		if i%29 != 0 {
			continue
		}
		for _, jobs := range variants(w.jobs) {
			want := isLegal(w.set, jobs)
			if got := impl.JobsLegal(w.set, jobs); got != want {
				t.Fatalf("JobsLegal(%v, %v) = %v", w.set, jobs, got)
			}
			if want {
				legal++
			} else {
				illegal++
			}
		}
	}
	if min(legal, illegal) < 1000 {
		t.Fatal(legal, illegal)
	}
}

func TestP48IllegalPatterns(t *testing.T) {
	for _, jobs := range illegalPatterns() {
		if impl.JobsLegal(pairSet(), jobs) {
			t.Fatalf("JobsLegal(%v, %v) = true", pairSet(), jobs)
		}
	}
}

func TestP48ExtremesAreLegal(t *testing.T) {
	set := pairSet()
	for _, jobs := range [][]impl.Job{
		nil,
		{},
		{jobOf(set, 0, 0, 1)},
		{jobOf(set, 0, 0, 2)},
		{jobOf(set, 1, 0, 3)},
		{jobOf(set, 0, 119, 2)},
		{jobOf(set, 1, 119, 3)},
		{jobOf(set, 0, 0, 1), jobOf(set, 1, 0, 1)},
		{jobOf(set, 1, 0, 1), jobOf(set, 0, 1, 1)},
		{jobOf(set, 0, 0, 1), jobOf(set, 0, 4, 1), jobOf(set, 0, 119, 1), jobOf(set, 1, 119, 1)},
	} {
		if !impl.JobsLegal(set, jobs) {
			t.Fatalf("JobsLegal(%v, %v) = false", set, jobs)
		}
	}
}

func TestP48AtMostMaxJobs(t *testing.T) {
	set := []impl.Task{task(1, 1, 1)}
	var jobs []impl.Job
	for release := range 62 {
		if got, want := impl.JobsLegal(set, jobs), release <= 60; got != want {
			t.Fatalf("JobsLegal with %d jobs = %v", len(jobs), got)
		}
		jobs = append(jobs, jobOf(set, 0, release, 1))
	}
}

func TestP48InvalidSetsHaveNoLegalPattern(t *testing.T) {
	for _, set := range invalidSets() {
		for _, jobs := range [][]impl.Job{nil, {}, {{TaskID: 0, Release: 0, Deadline: 2, Exec: 1}}, {jobOf(set, len(set)-1, 0, 1)}} {
			if impl.JobsLegal(set, jobs) {
				t.Fatalf("JobsLegal(%v, %v) = true", set, jobs)
			}
		}
	}
	for _, set := range [][]impl.Task{nil, {}} {
		if !impl.JobsLegal(set, nil) || impl.JobsLegal(set, []impl.Job{{}}) || impl.JobsLegal(set, []impl.Job{{Deadline: 1, Exec: 1}}) {
			t.Fatal("the empty set has exactly one legal pattern, the empty one")
		}
	}
}

// synchronousTo lists the jobs task by task, puts them in order, and takes the first ones.
func synchronousTo(set []impl.Task, limit int) []impl.Job {
	var jobs []impl.Job
	for id, x := range set {
		for release := 0; release+x.Deadline <= limit; release += x.Period {
			jobs = append(jobs, jobOf(set, id, release, x.Cost))
		}
	}
	sortJobs(jobs)
	return jobs[:min(len(jobs), 60)]
}

func TestP49SynchronousIsCompleteAndInOrder(t *testing.T) {
	truncated, exact := 0, 0
	for i, set := range demandSets() {
		if i%8 != 0 && len(set) > 1 {
			continue
		}
		for limit := range 121 {
			jobs := impl.Synchronous(set, limit)
			if want := synchronousTo(set, limit); !slices.Equal(jobs, want) {
				t.Fatalf("Synchronous(%v, %d) = %v, want %v", set, limit, jobs, want)
			}
			if !impl.JobsLegal(set, jobs) || !isLegal(set, jobs) {
				t.Fatalf("Synchronous(%v, %d) = %v is illegal", set, limit, jobs)
			}
			total := 0
			for _, job := range jobs {
				total += job.Exec
				if job.Deadline > limit || job.Exec != set[job.TaskID].Cost {
					t.Fatalf("Synchronous(%v, %d) has %v", set, limit, job)
				}
			}
			due := workBy(set, limit, func(x impl.Task) int { return x.Deadline })[limit]
			switch {
			case len(jobs) == 60 && total < due:
				truncated++
			case total != due:
				t.Fatalf("Synchronous(%v, %d) has work %d, want %d", set, limit, total, due)
			case len(jobs) == 60:
				exact++
			case limit <= impl.Hyperperiod(set) && impl.Demand(set, limit) != total:
				t.Fatalf("Synchronous(%v, %d) has work %d, the demand is %d", set, limit, total, impl.Demand(set, limit))
			}
		}
	}
	if min(truncated, exact) < 10 {
		t.Fatal(truncated, exact)
	}
}

func TestP49SynchronousExamples(t *testing.T) {
	set := pairSet()
	unit := slices.Repeat([]impl.Task{task(1, 1, 1)}, 5)
	for _, c := range []struct {
		set   []impl.Task
		limit int
		want  []impl.Job
	}{
		{set, 0, nil},
		{set, 3, nil},
		{set, 4, []impl.Job{jobOf(set, 0, 0, 2)}},
		{set, 6, []impl.Job{jobOf(set, 0, 0, 2), jobOf(set, 1, 0, 3)}},
		{set, 12, []impl.Job{jobOf(set, 0, 0, 2), jobOf(set, 1, 0, 3), jobOf(set, 0, 4, 2), jobOf(set, 1, 6, 3), jobOf(set, 0, 8, 2)}},
		{unit, 1, []impl.Job{jobOf(unit, 0, 0, 1), jobOf(unit, 1, 0, 1), jobOf(unit, 2, 0, 1), jobOf(unit, 3, 0, 1), jobOf(unit, 4, 0, 1)}},
		{nil, 0, nil},
		{nil, 120, nil},
		{[]impl.Task{}, 60, nil},
	} {
		if got := impl.Synchronous(c.set, c.limit); !slices.Equal(got, c.want) {
			t.Fatalf("Synchronous(%v, %d) = %v, want %v", c.set, c.limit, got, c.want)
		}
	}
}

func TestP49SynchronousHasAtMostMaxJobs(t *testing.T) {
	unit := []impl.Task{task(1, 1, 1)}
	for limit := range 121 {
		jobs := impl.Synchronous(unit, limit)
		if len(jobs) != min(limit, 60) {
			t.Fatalf("Synchronous(%v, %d) has %d jobs", unit, limit, len(jobs))
		}
		for i, job := range jobs {
			if job != jobOf(unit, 0, i, 1) {
				t.Fatalf("Synchronous(%v, %d) has %v", unit, limit, job)
			}
		}
	}
	if jobs := impl.Synchronous([]impl.Task{task(1, 2, 2)}, 120); len(jobs) != 60 || jobs[59].Release != 118 {
		t.Fatal(jobs)
	}
	// A job that is not due in time takes no place among the first ones.
	mixed := []impl.Task{task(1, 1, 2), task(1, 12, 12)}
	if jobs := impl.Synchronous(mixed, 11); len(jobs) != 6 {
		t.Fatal(jobs)
	}
}

func TestP49SynchronousOfInvalidArguments(t *testing.T) {
	for _, set := range append(sampleSets(), invalidSets()...) {
		for _, limit := range []int{-1, 121, math.MinInt, math.MaxInt} {
			if jobs := impl.Synchronous(set, limit); len(jobs) != 0 {
				t.Fatalf("Synchronous(%v, %d) = %v", set, limit, jobs)
			}
		}
	}
	for _, set := range invalidSets() {
		for _, limit := range []int{0, 1, 12, 120} {
			if jobs := impl.Synchronous(set, limit); len(jobs) != 0 {
				t.Fatalf("Synchronous(%v, %d) = %v", set, limit, jobs)
			}
		}
	}
}

func TestP50JobsRunBetweenReleaseAndFinish(t *testing.T) {
	for _, w := range workloads() {
		s := impl.RunEdf(w.set, w.jobs)
		if len(s.Run) != 120 || len(s.Finish) != len(w.jobs) {
			t.Fatalf("RunEdf(%v, %v) = %v", w.set, w.jobs, s)
		}
		done, last := make([]int, len(w.jobs)), make([]int, len(w.jobs))
		for now, i := range s.Run {
			if i == -1 {
				continue
			}
			if i < -1 || i >= len(w.jobs) || now < w.jobs[i].Release {
				t.Fatalf("RunEdf(%v, %v) runs %d at %d", w.set, w.jobs, i, now)
			}
			done[i]++
			last[i] = now
		}
		for i, job := range w.jobs {
			finished := s.Finish[i] != -1
			if done[i] > job.Exec || finished != (done[i] == job.Exec) || finished && s.Finish[i] != last[i]+1 {
				t.Fatalf("RunEdf(%v, %v) = %v: job %d runs for %d ticks, last at %d", w.set, w.jobs, s, i, done[i], last[i])
			}
		}
	}
}

func TestP50Examples(t *testing.T) {
	set := pairSet()
	long := []impl.Task{task(8, 12, 12), task(2, 3, 12)}
	twins := []impl.Task{task(2, 6, 6), task(1, 6, 6), task(3, 5, 6)}
	for _, c := range []struct {
		set    []impl.Task
		jobs   []impl.Job
		start  int
		run    []int
		finish []int
	}{
		{set, nil, 0, nil, nil},
		{nil, nil, 0, nil, nil},
		{set, []impl.Job{jobOf(set, 0, 0, 1)}, 0, []int{0}, []int{1}},
		{set, []impl.Job{jobOf(set, 0, 119, 1)}, 119, []int{0}, []int{120}},
		{set, []impl.Job{jobOf(set, 0, 119, 2)}, 119, []int{0}, []int{-1}},
		{set, []impl.Job{jobOf(set, 0, 119, 1), jobOf(set, 1, 119, 1)}, 119, []int{0}, []int{120, -1}},
		{set, synchronousTo(set, 12), 0, []int{0, 0, 1, 1, 1, 2, 2, 3, 3, 3, 4, 4}, []int{2, 5, 7, 10, 12}},
		{set, []impl.Job{jobOf(set, 1, 0, 3), jobOf(set, 0, 2, 2)}, 0, []int{0, 0, 0, 1, 1}, []int{3, 5}},
		{long, []impl.Job{jobOf(long, 0, 3, 8), jobOf(long, 1, 5, 2)}, 3, []int{0, 0, 1, 1, 0, 0, 0, 0, 0, 0}, []int{13, 7}},
		{twins, []impl.Job{jobOf(twins, 0, 0, 2), jobOf(twins, 1, 0, 1), jobOf(twins, 2, 1, 3)}, 0, []int{0, 0, 1, 2, 2, 2}, []int{2, 3, 6}},
		{twins, []impl.Job{jobOf(twins, 1, 0, 1), jobOf(twins, 2, 0, 1), jobOf(twins, 0, 1, 1)}, 0, []int{1, 0, 2}, []int{2, 1, 3}},
	} {
		want := slices.Repeat([]int{-1}, 120)
		copy(want[c.start:], c.run)
		s := impl.RunEdf(c.set, c.jobs)
		if !slices.Equal(s.Run, want) || !slices.Equal(s.Finish, c.finish) {
			t.Fatalf("RunEdf(%v, %v) = %v", c.set, c.jobs, s)
		}
	}
}

func TestP50RunEdfOfIllegalPatterns(t *testing.T) {
	check := func(set []impl.Task, jobs []impl.Job) {
		t.Helper()
		if s := impl.RunEdf(set, jobs); len(s.Run) != 0 || len(s.Finish) != 0 {
			t.Fatalf("RunEdf(%v, %v) = %v", set, jobs, s)
		}
	}
	for _, jobs := range illegalPatterns() {
		check(pairSet(), jobs)
		check(nil, jobs)
	}
	for _, set := range invalidSets() {
		check(set, nil)
		check(set, []impl.Job{{TaskID: 0, Release: 0, Deadline: 2, Exec: 1}})
	}
	for i, w := range workloads() {
		if i%97 != 0 {
			continue
		}
		for _, jobs := range variants(w.jobs) {
			if !isLegal(w.set, jobs) {
				check(w.set, jobs)
			}
		}
	}
}

func TestP51MissedIsLateOrMissing(t *testing.T) {
	s := &sequence{state: 51}
	for _, w := range workloads() {
		schedule := impl.RunEdf(w.set, w.jobs)
		if got, want := impl.Missed(w.jobs, schedule), missedBy(w.jobs, schedule.Run); !slices.Equal(got, want) {
			t.Fatalf("Missed(%v, %v) = %v, want %v", w.jobs, schedule, got, want)
		}
		var finish, want []int
		for i, job := range w.jobs {
			f := []int{-1, job.Deadline - 1, job.Deadline, job.Deadline + 1, 0, 120, math.MinInt, math.MaxInt}[s.below(8)]
			finish = append(finish, f)
			if job.Deadline <= 120 && (f < 0 || f > job.Deadline) {
				want = append(want, i)
			}
		}
		if got := impl.Missed(w.jobs, impl.Schedule{Finish: finish}); !slices.Equal(got, want) {
			t.Fatalf("Missed(%v, %v) = %v, want %v", w.jobs, finish, got, want)
		}
	}
}

func TestP51MissedExamples(t *testing.T) {
	due := func(deadlines ...int) []impl.Job {
		var jobs []impl.Job
		for _, d := range deadlines {
			jobs = append(jobs, impl.Job{Deadline: d})
		}
		return jobs
	}
	for _, c := range []struct {
		jobs   []impl.Job
		finish []int
		want   []int
	}{
		{nil, nil, nil},
		{nil, []int{}, nil},
		{due(4), []int{4}, nil},
		{due(4), []int{5}, []int{0}},
		{due(4), []int{-1}, []int{0}},
		{due(4), []int{-2}, []int{0}},
		{due(4), []int{math.MinInt}, []int{0}},
		{due(4), []int{math.MaxInt}, []int{0}},
		{due(4), []int{0}, nil},
		{due(120), []int{120}, nil},
		{due(120), []int{-1}, []int{0}},
		{due(120), []int{121}, []int{0}},
		{due(121), []int{-1}, nil},
		{due(121), []int{122}, nil},
		{due(math.MaxInt), []int{-1}, nil},
		{due(0), []int{0}, nil},
		{due(-3), []int{-3}, []int{0}},
		{due(-3), []int{-4}, []int{0}},
		{due(-3), []int{0}, []int{0}},
		{due(math.MinInt), []int{math.MinInt}, []int{0}},
		{due(4, 6, 4, 121, 5), []int{5, 6, -1, -1, 9}, []int{0, 2, 4}},
	} {
		// The ticks in which jobs run do not matter.
		for _, run := range [][]int{nil, {0}, {-1, 7}, make([]int, 120)} {
			if got := impl.Missed(c.jobs, impl.Schedule{Run: run, Finish: c.finish}); !slices.Equal(got, c.want) {
				t.Fatalf("Missed(%v, %v) = %v, want %v", c.jobs, c.finish, got, c.want)
			}
		}
	}
	many := due(slices.Repeat([]int{1}, 100)...)
	if got := impl.Missed(many, impl.Schedule{Finish: slices.Repeat([]int{2}, 100)}); len(got) != 100 || got[99] != 99 {
		t.Fatal(got)
	}
}

func TestP51ScheduleOfAnotherLength(t *testing.T) {
	jobs := synchronousTo(pairSet(), 24)
	for n := range 2 * len(jobs) {
		for _, finish := range []int{-1, 119} {
			got := impl.Missed(jobs, impl.Schedule{Run: make([]int, 120), Finish: slices.Repeat([]int{finish}, n)})
			if want := n == len(jobs); (len(got) == len(jobs)) != want || !want && len(got) != 0 {
				t.Fatalf("Missed with %d jobs and %d finish times = %v", len(jobs), n, got)
			}
		}
	}
	if got := impl.Missed(nil, impl.Schedule{Finish: []int{-1}}); len(got) != 0 {
		t.Fatal(got)
	}
}

func TestP1AnAdmittedSetMissesNoDeadline(t *testing.T) {
	admitted, exactlyFull := 0, 0
	for i, set := range demandSets() {
		if !impl.EdfFeasible(set) {
			continue
		}
		admitted++
		if u := impl.Utilization(set); u.Num == u.Den {
			exactlyFull++
		}
		for _, jobs := range patterns(set, i) {
			s := impl.RunEdf(set, jobs)
			if missed := impl.Missed(jobs, s); len(missed) != 0 {
				t.Fatalf("%v is feasible, but %v misses %v", set, jobs, missed)
			}
			if missed := missedBy(jobs, s.Run); len(missed) != 0 {
				t.Fatalf("%v is feasible, but %v misses %v", set, jobs, missed)
			}
		}
	}
	if min(admitted, exactlyFull) < 100 {
		t.Fatal(admitted, exactlyFull)
	}
}

func TestP114TheEarliestDeadlineRuns(t *testing.T) {
	for _, w := range workloads() {
		s := impl.RunEdf(w.set, w.jobs)
		if want := edfByScan(w.jobs); !equalSchedules(s, want) {
			t.Fatalf("RunEdf(%v, %v) = %v, want %v", w.set, w.jobs, s, want)
		}
		done := make([]int, len(w.jobs))
		for now, i := range s.Run {
			for k, job := range w.jobs {
				if job.Release > now || done[k] == job.Exec || k == i {
					continue
				}
				if i == -1 || job.Deadline < w.jobs[i].Deadline || job.Deadline == w.jobs[i].Deadline && k < i {
					t.Fatalf("RunEdf(%v, %v) runs %d at %d, while %d waits", w.set, w.jobs, i, now, k)
				}
			}
			if i != -1 {
				done[i]++
			}
		}
	}
}

func TestP114TiesGoToTheLowerIndex(t *testing.T) {
	for n := 1; n <= 5; n++ {
		set := slices.Repeat([]impl.Task{task(2, 12, 12)}, n)
		s := impl.RunEdf(set, periodic(set))
		for now, i := range s.Run[:12] {
			want := now / 2
			if want >= n {
				want = -1
			}
			if i != want {
				t.Fatalf("%d jobs with the same deadline run as %v", n, s.Run[:12])
			}
		}
	}
	// The job of the lower task is released later, and so has the higher index; a running job is preempted only for an earlier deadline.
	set := []impl.Task{task(2, 4, 12), task(4, 6, 12), task(1, 3, 12)}
	jobs := []impl.Job{jobOf(set, 1, 0, 4), jobOf(set, 0, 2, 2), jobOf(set, 2, 3, 1)}
	if s := impl.RunEdf(set, jobs); !slices.Equal(s.Run[:8], []int{0, 0, 0, 0, 1, 1, 2, -1}) {
		t.Fatal(s.Run[:8])
	}
}

func TestP115TheFutureDoesNotInfluenceThePast(t *testing.T) {
	for i, w := range workloads() {
		s := impl.RunEdf(w.set, w.jobs)
		for from := i % 7; from <= 120; from += 7 {
			early := slices.Clone(w.jobs)
			early = slices.DeleteFunc(early, func(j impl.Job) bool { return j.Release >= from })
			other := impl.RunEdf(w.set, early)
			if len(other.Run) != 120 || len(other.Finish) != len(early) || !slices.Equal(s.Run[:from], other.Run[:from]) {
				t.Fatalf("RunEdf(%v, %v) before %d is %v, but %v with the later jobs", w.set, early, from, other.Run, s.Run)
			}
			for k, f := range other.Finish {
				if f != s.Finish[k] && (f != -1 && f <= from || s.Finish[k] != -1 && s.Finish[k] <= from) {
					t.Fatalf("RunEdf(%v, %v): job %d finishes at %d, but at %d with the later jobs", w.set, early, k, f, s.Finish[k])
				}
			}
		}
	}
}

func TestSimulationsDoNotWriteToArguments(t *testing.T) {
	list := workloads()
	for _, set := range invalidSets() {
		list = append(list, workload{set, synchronousTo(pairSet(), 12)})
	}
	for _, jobs := range illegalPatterns() {
		list = append(list, workload{pairSet(), jobs})
	}
	for _, w := range list {
		// Spare capacity belongs to the caller, too.
		tasks := append(slices.Clone(w.set), task(4, 5, 6), task(-1, -2, -3))
		jobs := append(slices.Clone(w.jobs), impl.Job{TaskID: 7, Release: 8, Deadline: 9, Exec: 10}, impl.Job{})
		set, pattern := tasks[:len(w.set)], jobs[:len(w.jobs)]
		finish := slices.Repeat([]int{-7}, len(jobs))
		impl.JobsLegal(set, pattern)
		impl.Synchronous(set, 120)
		impl.RunEdf(set, pattern)
		impl.Missed(pattern, impl.Schedule{Run: finish[:1], Finish: finish[:len(pattern)]})
		if !slices.Equal(tasks[:len(set)], w.set) || tasks[len(set)] != task(4, 5, 6) || tasks[len(set)+1] != task(-1, -2, -3) {
			t.Fatalf("%v became %v", w.set, tasks)
		}
		if !slices.Equal(pattern, w.jobs) || jobs[len(pattern)] != (impl.Job{TaskID: 7, Release: 8, Deadline: 9, Exec: 10}) || jobs[len(pattern)+1] != (impl.Job{}) {
			t.Fatalf("%v became %v", w.jobs, jobs)
		}
		if !slices.Equal(finish, slices.Repeat([]int{-7}, len(jobs))) {
			t.Fatalf("the finish times became %v", finish)
		}
	}
}

func TestSchedulesShareNoMemory(t *testing.T) {
	set, jobs := pairSet(), synchronousTo(pairSet(), 24)
	want := edfByScan(jobs)
	first, second := impl.RunEdf(set, jobs), impl.RunEdf(set, jobs)
	overwrite(first.Run)
	if !slices.Equal(first.Finish, want.Finish) {
		t.Fatal("the parts of a schedule share memory")
	}
	overwrite(first.Finish)
	if !equalSchedules(second, want) {
		t.Fatal("two schedules share memory")
	}
}

// overwrite fills the spare capacity, too.
func overwrite(list []int) {
	list = list[:cap(list)]
	for i := range list {
		list[i] = 99
	}
}
