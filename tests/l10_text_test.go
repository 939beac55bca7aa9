package tests

import (
	"cmp"
	"fmt"
	"math"
	"slices"
	"strings"
	"testing"

	"loop.example/deadlinescheduler/impl"
)

// formatOf formats any task, valid or not.
func formatOf(x impl.Task) string {
	return fmt.Sprintf("task %d %d %d", x.Cost, x.Deadline, x.Period)
}

func formatsOf(set []impl.Task) []string {
	var lines []string
	for _, x := range set {
		lines = append(lines, formatOf(x))
	}
	return lines
}

// tasksByLine has every line that can be parsed.
func tasksByLine() map[string]impl.Task {
	tasks := map[string]impl.Task{}
	for _, x := range validTasks() {
		tasks[formatOf(x)] = x
	}
	return tasks
}

// parser checks ParseTask against the lines that can be parsed, and counts them.
type parser struct {
	tasks            map[string]impl.Task
	accepted, others int
}

func newParser() *parser {
	return &parser{tasks: tasksByLine()}
}

func (p *parser) check(t *testing.T, line string) {
	t.Helper()
	want, ok := p.tasks[line]
	if got, accepted := impl.ParseTask(line); got != want || accepted != ok {
		t.Fatalf("ParseTask(%q) = %v, %v", line, got, accepted)
	}
	if ok {
		p.accepted++
	} else {
		p.others++
	}
}

// malformedLines has lines of every kind that no task has as its format.
func malformedLines() []string {
	lines := []string{
		"", " ", "\n", "\x00", "0", "x", "task", "task ", "task  ", "task   ", "1 1 1", " 1 1 1", "2 4 12",
		"task 2", "task 2 4", "task 2 4 ", "task 2 4 12 ", "task 2 4 12 1", "task 2 4 12 12", "task 2 4 12 x",
		"task 02 4 12", "task 2 04 12", "task 2 4 012", "task 002 4 12", "task 02 04 012", "task 0 4 12", "task 00 4 12", "task 2 0 12", "task 2 4 0",
		"task +2 4 12", "task 2 +4 12", "task 2 4 +12", "task -2 4 12", "task 2 -4 12", "task 2 4 -12", "task -2 -4 -12", "task -0 4 12",
		"task  2 4 12", "task 2  4 12", "task 2 4  12", " task 2 4 12", "  task 2 4 12", "task 2 4 12  ",
		"task\t2 4 12", "task 2\t4 12", "task 2 4\t12", "\ttask 2 4 12", "task 2 4 12\t", "task\v2 4 12", "task 2 4 12\f",
		"task 2 4 12\n", "task 2 4 12\r\n", "task 2 4 12\r", "\ntask 2 4 12", "task 2 4\n12", "task\n2 4 12", "task 2 4 12\x00", "task 2 4 12\ntask 2 4 12",
		"Task 2 4 12", "TASK 2 4 12", "tasK 2 4 12", "tas 2 4 12", "tasks 2 4 12", "taskk 2 4 12", "ttask 2 4 12", "job 2 4 12", "server 2 4", "line 1", "cores 1",
		"task2 4 12", "task 24 12", "task 2412", "task2412", "task 2,4,12", "task 2;4;12", "task:2 4 12", "task 2 4 12.", "task 2.0 4 12", "task 2 4 1e1", "task 0x2 4 12", "task 2 4 0xC", "task 2 4 1_2", "task a b c", "task 2 4 c", "\"task 2 4 12\"",
		"task \u0662 4 12", "task 2 4 1\u0662", "task\u00a02 4 12", "task 2 4 12\u00a0", "t\u00e4sk 2 4 12", "task \uff12 4 12", "\ufefftask 2 4 12", "task 2 4 12\xff", "\x80task 2 4 12", "task 2\xff4 12", "task \xb2 4 12", "task \u00b2 4 12", "\u0442\u0430\u0455k 2 4 12",
		"task 9 9 9", "task 9 12 12", "task 2 4 13", "task 2 13 13", "task 5 4 12", "task 2 8 4", "task 10 10 10", "task 2 4 3", "task 2 1 1", "task 1 12 11", "task 20 40 120", "task 99 99 99",
	}
	for _, number := range []string{
		// These are 2, 4 and 12 again in eight, sixteen, 32 and 64 bits.
		"258", "65538", "4294967298", "18446744073709551618", "260", "4294967300", "18446744073709551620", "268", "4294967308", "18446744073709551628",
		"9223372036854775807", "9223372036854775808", "-9223372036854775808", "18446744073709551615", "99999999999999999999", "100000000000000000000",
	} {
		lines = append(lines, "task "+number+" 4 12", "task 2 "+number+" 12", "task 2 4 "+number)
	}
	for _, x := range invalidTasks() {
		lines = append(lines, formatOf(x))
	}
	return slices.Concat(lines, paddedLines(20), paddedLines(21), []string{
		strings.Repeat("9", 1<<20),
		"task 2 4 12" + strings.Repeat(" ", 1<<20),
		"task " + strings.Repeat("0", 1<<20) + "2 4 12",
		strings.Repeat("task 2 4 12 ", 1<<16),
	})
}

// paddedLines fills up the longest format and others to the given length, with every kind of byte and at every place.
func paddedLines(length int) []string {
	var lines []string
	for _, format := range []string{"task 8 12 12", "task 1 10 11", "task 2 4 12", "task 1 1 1", ""} {
		for _, filling := range []string{" ", "0", "1", "x", "\n", "\x00", "\xff"} {
			for place := range len(format) + 1 {
				lines = append(lines, format[:place]+strings.Repeat(filling, length-len(format))+format[place:])
			}
		}
	}
	return lines
}

func TestTextLimits(t *testing.T) {
	if impl.MaxLine != 20 {
		t.Fatal(impl.MaxLine)
	}
}

func TestP76FormattingAndParsingAreInverse(t *testing.T) {
	longest, shortest := 0, 100
	for _, x := range validTasks() {
		line := impl.FormatTask(x)
		if line != formatOf(x) {
			t.Fatalf("FormatTask(%v) = %q", x, line)
		}
		if got, ok := impl.ParseTask(line); !ok || got != x {
			t.Fatalf("ParseTask(%q) = %v, %v", line, got, ok)
		}
		longest, shortest = max(longest, len(line)), min(shortest, len(line))
	}
	// The longest line there is has 12 bytes, fewer than MaxLine.
	if longest != 12 || shortest != 10 {
		t.Fatal(longest, shortest)
	}
}

func TestP76Examples(t *testing.T) {
	for _, c := range []struct {
		task impl.Task
		line string
	}{
		{task(1, 1, 1), "task 1 1 1"},
		{task(8, 8, 8), "task 8 8 8"},
		{task(2, 4, 4), "task 2 4 4"},
		{task(3, 6, 6), "task 3 6 6"},
		{task(2, 4, 12), "task 2 4 12"},
		{task(1, 9, 10), "task 1 9 10"},
		{task(1, 10, 10), "task 1 10 10"},
		{task(8, 11, 12), "task 8 11 12"},
		{task(8, 12, 12), "task 8 12 12"},
	} {
		if line := impl.FormatTask(c.task); line != c.line {
			t.Fatalf("FormatTask(%v) = %q", c.task, line)
		}
		if got, ok := impl.ParseTask(c.line); !ok || got != c.task {
			t.Fatalf("ParseTask(%q) = %v, %v", c.line, got, ok)
		}
	}
}

func TestP76ExactlyTheValidTasksHaveAFormat(t *testing.T) {
	tasks := tasksByLine()
	for cost := -2; cost <= 14; cost++ {
		for deadline := -2; deadline <= 14; deadline++ {
			for period := -2; period <= 14; period++ {
				x := task(cost, deadline, period)
				want := formatOf(x)
				if _, ok := tasks[want]; !ok {
					want = ""
				}
				if line := impl.FormatTask(x); line != want {
					t.Fatalf("FormatTask(%v) = %q", x, line)
				}
			}
		}
	}
	for _, x := range invalidTasks() {
		if line := impl.FormatTask(x); line != "" {
			t.Fatalf("FormatTask(%v) = %q", x, line)
		}
	}
}

func TestP76MalformedLinesAreNoTasks(t *testing.T) {
	p := newParser()
	for _, line := range malformedLines() {
		p.check(t, line)
	}
	if p.accepted > 0 {
		t.Fatal(p.accepted)
	}
}

func TestP76EveryLineOfNumbers(t *testing.T) {
	var numbers []string
	for n := -2; n <= 25; n++ {
		numbers = append(numbers, fmt.Sprint(n), fmt.Sprintf("0%d", n))
	}
	numbers = append(numbers, "", " ", "+1", "-0", "00", "001", "100", "112", "1 ", "x")
	p := newParser()
	for _, cost := range numbers {
		for _, deadline := range numbers {
			for _, period := range numbers {
				p.check(t, "task "+cost+" "+deadline+" "+period)
			}
		}
	}
	if p.accepted != len(validTasks()) {
		t.Fatal(p.accepted)
	}
}

// eachNeighbour has every line that differs from the given one in one byte: one less, one more or another one.
func eachNeighbour(line string, f func(line string)) {
	for place := range len(line) + 1 {
		before, after := line[:place], line[place:]
		if after != "" {
			f(before + after[1:])
		}
		for b := range 256 {
			f(before + string([]byte{byte(b)}) + after)
			if after != "" {
				f(before + string([]byte{byte(b)}) + after[1:])
			}
		}
	}
}

func TestP76EveryLineThatIsAByteAwayFromAFormat(t *testing.T) {
	p := newParser()
	for _, x := range validTasks() {
		eachNeighbour(formatOf(x), func(line string) { p.check(t, line) })
	}
	if p.accepted < 5000 || p.others < 1000000 {
		t.Fatal(p.accepted, p.others)
	}
}

func TestP76EveryShortContinuation(t *testing.T) {
	p := newParser()
	lines := []string{""}
	for start := 0; start < len(lines) && len(lines[start]) < 7; start++ {
		for _, b := range " 0128x" {
			lines = append(lines, lines[start]+string(b))
		}
	}
	for _, line := range lines {
		p.check(t, "task "+line)
		p.check(t, "task"+line)
		p.check(t, line)
	}
	if p.accepted < 20 {
		t.Fatal(p.accepted)
	}
}

func TestP76LinesOfRandomParts(t *testing.T) {
	parts := []string{"task", "task ", " ", "  ", "\t", "\n", "1", "2", "8", "9", "0", "10", "12", "13", "-", "+", "x", "\xff", "4 4", " 12 12", "task 2 4 12"}
	s := &sequence{state: 3}
	p := newParser()
	for range 300000 {
		line := ""
		for range s.below(8) {
			line += parts[s.below(len(parts))]
		}
		p.check(t, line)
	}
	if p.accepted < 100 {
		t.Fatal(p.accepted)
	}
}

func TestP76WhatIsAcceptedIsAFormat(t *testing.T) {
	accepted := 0
	for _, x := range validTasks() {
		for _, filling := range []string{"", " ", "0", "1", "2", "\n", "+", "\x00"} {
			line := formatOf(x)
			for place := range len(line) + 1 {
				changed := line[:place] + filling + line[place:]
				got, ok := impl.ParseTask(changed)
				if ok {
					accepted++
				}
				if ok && (!impl.TaskValid(got) || impl.FormatTask(got) != changed) || !ok && got != (impl.Task{}) {
					t.Fatalf("ParseTask(%q) = %v, %v", changed, got, ok)
				}
			}
		}
	}
	if accepted < 1000 {
		t.Fatal(accepted)
	}
}

// deadlineOrder is the deadline-monotonic order.
func deadlineOrder(set []impl.Task) []int {
	order := ascending(len(set))
	slices.SortStableFunc(order, func(a, b int) int { return cmp.Compare(set[a].Deadline, set[b].Deadline) })
	return order
}

// reportByScan is the report of a set, from the results that the tests of the earlier chapters look for.
func reportByScan(set []impl.Task, cores int) []string {
	parts, whole := 0, multipleOfAllPeriods
	for _, x := range set {
		parts += whole / x.Period * x.Cost
	}
	common := whole
	if parts > 0 {
		common = commonFactor(parts, whole)
	}
	edf := "edf feasible"
	if overload := firstAbove(dueBy(set)); overload != -1 {
		edf = fmt.Sprintf("edf overload at %d", overload)
	}
	response := "response"
	for _, time := range responsesByScan(set, deadlineOrder(set)) {
		if time == -1 {
			response += " late"
		} else {
			response += fmt.Sprintf(" %d", time)
		}
	}
	return []string{
		fmt.Sprintf("utilization %d/%d", parts/common, whole/common),
		edf,
		response,
		fmt.Sprintf("cores %d", cores),
	}
}

func checkReport(t *testing.T, lines []string, want ...string) {
	t.Helper()
	if got := impl.Report(lines); !slices.Equal(got, want) {
		if len(lines) > 10 {
			lines = lines[:10]
		}
		t.Fatalf("Report(%.300q) = %q, want %q", lines, got, want)
	}
}

func TestReportsSeeEveryKindOfSet(t *testing.T) {
	var sizes, cores [6]int
	overload, longOverload, above, exact, late, lateFirst, lateLast, allLate, long, unordered, tied := 0, 0, 0, 0, 0, 0, 0, 0, 0, 0, 0
	count := func(counter *int, condition bool) {
		if condition {
			*counter++
		}
	}
	for _, p := range packings() {
		set, order := p.set, deadlineOrder(p.set)
		times := responsesByScan(set, order)
		first, u := firstAbove(dueBy(set)), impl.Utilization(set)
		sizes[len(set)]++
		cores[p.needed()]++
		n := len(set)
		count(&overload, first != -1)
		count(&longOverload, first >= 100)
		count(&above, u.Num > u.Den)
		count(&exact, u.Num == u.Den)
		count(&late, slices.Contains(times, -1) && first == -1)
		count(&lateFirst, n > 1 && times[0] == -1 && times[n-1] != -1)
		count(&lateLast, n > 1 && times[0] != -1 && times[n-1] == -1)
		count(&allLate, n > 1 && !slices.ContainsFunc(times[1:], func(time int) bool { return time != -1 }))
		count(&long, n > 0 && slices.Max(times) >= 10)
		count(&unordered, !slices.Equal(times, responsesByScan(set, ascending(n))))
		count(&tied, n > 2 && set[1].Deadline == set[2].Deadline)
	}
	if min(sizes[1], sizes[2], sizes[3], sizes[4], sizes[5]) < 100 || sizes[0] < 2 {
		t.Fatal(sizes)
	}
	if min(cores[1], cores[2], cores[3], cores[4]) < 100 || cores[5] < 10 {
		t.Fatal(cores)
	}
	if min(overload, above, lateFirst, lateLast, allLate, long, unordered, tied) < 100 || min(exact, longOverload, late) < 10 {
		t.Fatal(overload, longOverload, above, exact, late, lateFirst, lateLast, allLate, long, unordered, tied)
	}
}

func TestP77AReportStatesTheResults(t *testing.T) {
	for _, p := range packings() {
		checkReport(t, formatsOf(p.set), reportByScan(p.set, p.needed())...)
	}
}

func TestP77TheReportsOfSetsOfOneTask(t *testing.T) {
	for _, x := range validTasks() {
		common := commonFactor(x.Cost, x.Period)
		checkReport(t, []string{formatOf(x)},
			fmt.Sprintf("utilization %d/%d", x.Cost/common, x.Period/common),
			"edf feasible",
			fmt.Sprintf("response %d", x.Cost),
			"cores 1",
		)
	}
}

func TestP77FeasibilityAndProcessorsAgreeWithTheAnalyses(t *testing.T) {
	for _, set := range slices.Concat(fixedSets(), partitionSets()) {
		report := impl.Report(formatsOf(set))
		if len(report) != 4 {
			t.Fatalf("%v: %q", set, report)
		}
		edf := fmt.Sprintf("edf overload at %d", impl.FirstOverload(set))
		if impl.EdfFeasible(set) {
			edf = "edf feasible"
		}
		u := impl.Utilization(set)
		if report[0] != fmt.Sprintf("utilization %d/%d", u.Num, u.Den) || report[1] != edf || report[3] != fmt.Sprintf("cores %d", impl.MinCores(set)) {
			t.Fatalf("%v: %q", set, report)
		}
		response := strings.Split(report[2], " ")
		times := impl.ResponseTimes(set, impl.DeadlineMonotonic(set))
		if len(response) != len(set)+1 || response[0] != "response" || slices.Contains(response, "late") != slices.Contains(times, -1) {
			t.Fatalf("%v: %q", set, report)
		}
	}
}

func TestP77Examples(t *testing.T) {
	for _, c := range []struct {
		lines, want []string
	}{
		{nil, []string{"utilization 0/1", "edf feasible", "response", "cores 1"}},
		{[]string{}, []string{"utilization 0/1", "edf feasible", "response", "cores 1"}},
		{[]string{"task 2 4 4", "task 3 6 6"}, []string{"utilization 1/1", "edf feasible", "response 2 late", "cores 1"}},
		// The response times are in the order of the lines, whatever the priorities.
		{[]string{"task 3 6 6", "task 2 4 4"}, []string{"utilization 1/1", "edf feasible", "response late 2", "cores 1"}},
		{[]string{"task 3 10 12", "task 1 3 12", "task 2 5 12"}, []string{"utilization 1/2", "edf feasible", "response 6 1 3", "cores 1"}},
		// Of equal deadlines the first one has the higher priority.
		{[]string{"task 2 8 8", "task 3 8 8", "task 1 8 8"}, []string{"utilization 3/4", "edf feasible", "response 2 5 6", "cores 1"}},
		{[]string{"task 1 1 1"}, []string{"utilization 1/1", "edf feasible", "response 1", "cores 1"}},
		{[]string{"task 8 12 12"}, []string{"utilization 2/3", "edf feasible", "response 8", "cores 1"}},
		{[]string{"task 2 4 4", "task 3 4 6"}, []string{"utilization 1/1", "edf overload at 4", "response 2 late", "cores 2"}},
		{[]string{"task 3 4 6", "task 2 3 4"}, []string{"utilization 1/1", "edf overload at 4", "response late 2", "cores 2"}},
		{[]string{"task 1 1 1", "task 1 12 12"}, []string{"utilization 13/12", "edf overload at 12", "response 1 late", "cores 2"}},
		{[]string{"task 8 8 8", "task 1 12 12", "task 1 12 12"}, []string{"utilization 7/6", "edf overload at 16", "response 8 late late", "cores 2"}},
		{[]string{"task 6 12 12", "task 6 12 12"}, []string{"utilization 1/1", "edf feasible", "response 6 12", "cores 1"}},
		{[]string{"task 6 11 12", "task 6 11 12"}, []string{"utilization 1/1", "edf overload at 11", "response 6 late", "cores 2"}},
		{[]string{"task 4 9 9", "task 4 8 8", "task 1 7 12"}, []string{"utilization 37/36", "edf overload at 56", "response late 5 1", "cores 2"}},
		{[]string{"task 4 10 10", "task 4 8 8", "task 1 9 9"}, []string{"utilization 91/90", "edf overload at 120", "response late 4 5", "cores 2"}},
		{slices.Repeat([]string{"task 8 12 12"}, 5), []string{"utilization 10/3", "edf overload at 12", "response 8 late late late late", "cores 5"}},
		{slices.Repeat([]string{"task 1 1 1"}, 5), []string{"utilization 5/1", "edf overload at 1", "response 1 late late late late", "cores 5"}},
		{[]string{"task 1 7 7", "task 1 8 8", "task 1 9 9", "task 1 10 10", "task 1 11 11"}, []string{"utilization 15797/27720", "edf feasible", "response 1 2 3 4 5", "cores 1"}},
		{[]string{"task 4 10 10", "task 5 10 10", "task 6 10 10", "task 5 10 10"}, []string{"utilization 2/1", "edf overload at 10", "response 4 9 late late", "cores 2"}},
	} {
		checkReport(t, c.lines, c.want...)
	}
}

func TestReportOfAMalformedLine(t *testing.T) {
	for _, bad := range malformedLines() {
		checkReport(t, []string{bad}, "line 1")
		checkReport(t, []string{"task 2 4 4", bad}, "line 2")
		checkReport(t, []string{bad, "task 2 4 4"}, "line 1")
		checkReport(t, []string{bad, bad, bad}, "line 1")
	}
}

func TestReportOfTheFirstMalformedLine(t *testing.T) {
	for n := 1; n <= 13; n++ {
		for first := range n {
			for second := first; second < n; second++ {
				lines := slices.Repeat([]string{"task 1 12 12"}, n)
				lines[second] = "task 1 12 13"
				lines[first] = "task 1 12"
				checkReport(t, lines, fmt.Sprintf("line %d", first+1))
			}
		}
	}
}

func TestReportOfTooManyTasks(t *testing.T) {
	checkReport(t, slices.Repeat([]string{"task 1 12 12"}, 5), "utilization 5/12", "edf feasible", "response 1 2 3 4 5", "cores 1")
	for _, n := range []int{6, 7, 10, 11, 100, 100000} {
		checkReport(t, slices.Repeat([]string{"task 1 12 12"}, n), "too many tasks")
	}
}

// A malformed line is named first in the document, so that it counts even behind the line that is too many.
func TestReportOfAMalformedLineAmongTooMany(t *testing.T) {
	for _, n := range []int{6, 7, 12, 1000} {
		for _, place := range []int{0, 3, 4, 5, n - 1} {
			lines := slices.Repeat([]string{"task 1 12 12"}, n)
			lines[place] = ""
			checkReport(t, lines, fmt.Sprintf("line %d", place+1))
		}
	}
	lines := slices.Repeat([]string{"task 1 12 12"}, 123457)
	lines[123455] = "task 01 12 12"
	checkReport(t, lines, "line 123456")
}

func TestReportOfExtremeTasks(t *testing.T) {
	for _, n := range []int{math.MaxInt, math.MinInt, math.MaxInt32, math.MinInt32} {
		checkReport(t, []string{"task 1 1 1", fmt.Sprintf("task %d 1 1", n)}, "line 2")
		checkReport(t, []string{"task 1 1 1", fmt.Sprintf("task 1 %d 1", n)}, "line 2")
		checkReport(t, []string{"task 1 1 1", fmt.Sprintf("task 1 1 %d", n)}, "line 2")
	}
}

// linesForReports has lines for every kind of report.
func linesForReports() [][]string {
	return [][]string{
		{},
		{"task 2 4 4"},
		{"task 2 4 4", "task 3 6 6"},
		{"task 3 4 6", "task 2 3 4"},
		{"task 2 4 4", "x"},
		slices.Repeat([]string{"task 1 5 5"}, 5),
		slices.Repeat([]string{"task 1 5 5"}, 6),
		append(slices.Repeat([]string{"task 1 5 5"}, 6), ""),
	}
}

func overwriteLines(list []string) {
	list = list[:cap(list)]
	for i := range list {
		list[i] = "overwritten"
	}
}

func TestTextFunctionsDoNotWriteToArguments(t *testing.T) {
	for _, lines := range linesForReports() {
		memory := append(slices.Clone(lines), "task 4 5 6", "spare")
		before := slices.Clone(memory)
		overwriteLines(impl.Report(memory[:len(lines)]))
		if !slices.Equal(memory, before) {
			t.Fatalf("%q became %q", before, memory)
		}
	}
}

func TestReportsShareNoMemory(t *testing.T) {
	for _, lines := range linesForReports() {
		report := impl.Report(lines)
		want := slices.Clone(report)
		overwriteLines(impl.Report(lines))
		overwriteLines(lines)
		if !slices.Equal(report, want) {
			t.Fatalf("%q became %q", want, report)
		}
	}
}

func TestTextFunctionsKeepNoState(t *testing.T) {
	for range 2 {
		impl.ParseTask("task 2 4 12")
		impl.ParseTask("task 2 4 x")
		impl.Report([]string{"x"})
		if got, ok := impl.ParseTask("task 8 12 12"); !ok || got != task(8, 12, 12) {
			t.Fatal(got, ok)
		}
		checkReport(t, []string{"task 2 4 4", "task 3 6 6"}, "utilization 1/1", "edf feasible", "response 2 late", "cores 1")
	}
}
