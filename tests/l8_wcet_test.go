package tests

import (
	"math"
	"math/big"
	"slices"
	"sync"
	"testing"

	"loop.example/deadlinescheduler/impl"
)

func block(cost int) impl.Node {
	return impl.Node{Kind: 1, Cost: cost}
}

func seq(a, b int) impl.Node {
	return impl.Node{Kind: 2, A: a, B: b}
}

func branch(cost, a, b int) impl.Node {
	return impl.Node{Kind: 3, Cost: cost, A: a, B: b}
}

func loop(cost, a, bound int) impl.Node {
	return impl.Node{Kind: 4, Cost: cost, A: a, Bound: bound}
}

// outcomes has bit t for every execution time t of a node up to 600, and whether the node can take longer.
type outcomes struct {
	times  *big.Int
	longer bool
}

func always(time int) outcomes {
	return outcomes{times: new(big.Int).SetBit(new(big.Int), time, 1)}
}

func (o outcomes) has(time int) bool {
	return time >= 0 && o.times.Bit(time) == 1
}

func (o outcomes) or(other outcomes) outcomes {
	return outcomes{times: new(big.Int).Or(o.times, other.times), longer: o.longer || other.longer}
}

func (o outcomes) then(other outcomes) outcomes {
	sums := new(big.Int)
	for t := range o.times.BitLen() {
		if o.has(t) {
			sums.Or(sums, new(big.Int).Lsh(other.times, uint(t)))
		}
	}
	limit := new(big.Int).Lsh(big.NewInt(1), 601)
	return outcomes{
		times:  new(big.Int).Mod(sums, limit),
		longer: o.longer || other.longer || sums.Cmp(limit) >= 0,
	}
}

// worst is above every execution time that is counted if the node can take longer.
func (o outcomes) worst() int {
	if o.longer {
		return 601
	}
	return o.times.BitLen() - 1
}

func (o outcomes) best() int {
	return int(o.times.TrailingZeroBits())
}

// outcomesOf has the execution times of every node, for all choices.
func outcomesOf(prog []impl.Node) []outcomes {
	var all []outcomes
	for _, n := range prog {
		var o outcomes
		switch n.Kind {
		case 1:
			o = always(n.Cost)
		case 2:
			o = all[n.A].then(all[n.B])
		case 3:
			o = always(n.Cost).then(all[n.A].or(all[n.B]))
		case 4:
			turns := always(n.Cost)
			o = turns
			for range n.Bound {
				turns = turns.then(all[n.A]).then(always(n.Cost))
				o = o.or(turns)
			}
		}
		all = append(all, o)
	}
	return all
}

func rootOf[T any](list []T) T {
	return list[len(list)-1]
}

// step is something that is still to be done in an execution: to wait, or else to run a node.
type step struct {
	wait  int
	place int
}

// walk executes a program with a list of the steps to come, the next one last, and asks for every choice.
func walk(prog []impl.Node, choose func(place, alternatives int) int) int {
	time := 0
	steps := []step{{place: len(prog) - 1}}
	for len(steps) > 0 {
		next := rootOf(steps)
		steps = steps[:len(steps)-1]
		if next.wait > 0 {
			time += next.wait
			continue
		}
		n := prog[next.place]
		switch n.Kind {
		case 1:
			steps = append(steps, step{wait: n.Cost})
		case 2:
			steps = append(steps, step{place: n.B}, step{place: n.A})
		case 3:
			chosen := []int{n.A, n.B}[choose(next.place, 2)]
			steps = append(steps, step{place: chosen}, step{wait: n.Cost})
		case 4:
			for range choose(next.place, n.Bound+1) {
				steps = append(steps, step{wait: n.Cost}, step{place: n.A})
			}
			steps = append(steps, step{wait: n.Cost})
		}
	}
	return time
}

// modulo is the non-negative remainder, computed without overflow.
func modulo(x, m int) int {
	return int(new(big.Int).Mod(big.NewInt(int64(x)), big.NewInt(int64(m))).Int64())
}

// runByList returns the execution time and the number of choices that the execution takes, whether there are as many or not.
func runByList(prog []impl.Node, choices []int) (time, taken int) {
	time = walk(prog, func(_, alternatives int) int {
		taken++
		if taken > len(choices) {
			return 0
		}
		return modulo(choices[taken-1], alternatives)
	})
	return time, taken
}

// worstByOutcomes returns the choices that the document asks for.
func worstByOutcomes(prog []impl.Node) []int {
	all := outcomesOf(prog)
	var list []int
	walk(prog, func(place, alternatives int) int {
		n, choice := prog[place], alternatives-1
		if n.Kind == 3 && all[n.B].worst() <= all[n.A].worst() {
			choice = 0
		}
		list = append(list, choice)
		return choice
	})
	return list
}

// allChoices lists the choices of every execution, or of the first ones in lexicographic order if there are more than most.
func allChoices(prog []impl.Node, most int) [][]int {
	var list [][]int
	for choices := []int{}; choices != nil && len(list) < most; {
		var alternatives []int
		walk(prog, func(_, n int) int {
			alternatives = append(alternatives, n)
			if len(alternatives) > len(choices) {
				choices = append(choices, 0)
			}
			return choices[len(alternatives)-1]
		})
		list = append(list, slices.Clone(choices))
		choices = following(choices, alternatives)
	}
	return list
}

// following raises the last choice that can be raised and cuts off those after it; nil if there is none.
func following(choices, alternatives []int) []int {
	for i := len(choices) - 1; i >= 0; i-- {
		if choices[i]+1 < alternatives[i] {
			next := slices.Clone(choices[:i+1])
			next[i]++
			return next
		}
	}
	return nil
}

// spread is below without the lower bits of the state, which repeat too soon for the many small numbers of a program.
func (s *sequence) spread(n int) int {
	return s.below(1<<24) >> 12 % n
}

// someNode picks a valid node with a cost of at most most. Few nodes are blocks, and most have the node just before them as a child, so that the root reaches many nodes; if deep is set, all loops do.
func someNode(s *sequence, place, most int, deep bool) impl.Node {
	cost := 1 + s.spread(most)
	if place == 0 {
		return block(cost)
	}
	a, b := place-1, s.spread(place)
	if s.spread(6) == 0 {
		a = s.spread(place)
	}
	if s.spread(2) == 0 {
		a, b = b, a
	}
	switch s.spread(10) {
	case 0, 1, 2:
		return seq(a, b)
	case 3, 4, 5:
		return branch(cost, a, b)
	case 6, 7, 8:
		if deep {
			a = place - 1
		}
		return loop(cost, a, s.spread(5))
	}
	return block(cost)
}

// program is a sequence of nodes that are all valid, with the execution times of each; its worst case may be too large.
type program struct {
	nodes []impl.Node
	all   []outcomes
}

func (p program) root() outcomes {
	return rootOf(p.all)
}

func programOf(nodes []impl.Node) program {
	return program{nodes: nodes, all: outcomesOf(nodes)}
}

// programs has single nodes, the programs of the examples, and programs of all sizes that a fixed sequence picks.
var programs = sync.OnceValue(func() []program {
	var list []program
	for cost := 1; cost <= 9; cost++ {
		list = append(list, programOf([]impl.Node{block(cost)}))
	}
	for _, e := range wcetExamples() {
		list = append(list, programOf(e.prog))
	}
	for _, nodes := range tooLong() {
		list = append(list, programOf(nodes))
	}
	s := &sequence{state: 8}
	for i := range 3600 {
		// Small costs make for branches whose children cost the same.
		most := []int{9, 1, 3}[i/12%3]
		var nodes []impl.Node
		for place := range 1 + i%12 {
			nodes = append(nodes, someNode(s, place, most, i%24 < 12))
		}
		list = append(list, programOf(nodes))
	}
	return list
})

// validPrograms leaves out those whose worst case is too large.
var validPrograms = sync.OnceValue(func() []program {
	var list []program
	for _, p := range programs() {
		if !p.root().longer {
			list = append(list, p)
		}
	}
	return list
})

// someChoices has no choices, equal ones, and lists of all lengths, of which some entries are negative or very large.
func someChoices(seed int) [][]int {
	s := &sequence{state: uint32(seed)}
	lists := [][]int{nil, {}, {1}, {4}, {-1}, {math.MaxInt}, {math.MinInt}, slices.Repeat([]int{1}, 600), slices.Repeat([]int{4}, 600), slices.Repeat([]int{-1}, 600)}
	extremes := []int{math.MinInt, math.MinInt + 1, math.MinInt + 2, math.MinInt + 3, -1000003, 1000003, math.MaxInt - 3, math.MaxInt - 2, math.MaxInt - 1, math.MaxInt}
	for _, n := range []int{1, 2, 3, 5, 8, 13, 40, 700} {
		var small, wide []int
		for range n {
			small = append(small, s.below(5))
			if s.below(3) == 0 {
				wide = append(wide, extremes[s.below(len(extremes))])
			} else {
				wide = append(wide, s.below(41)-20)
			}
		}
		lists = append(lists, small, wide)
	}
	return lists
}

// wcetExample has a valid program, its bounds and the choices of its worst case.
type wcetExample struct {
	prog    []impl.Node
	worst   int
	best    int
	choices []int
}

func wcetExamples() []wcetExample {
	return slices.Concat(smallExamples(), reachExamples(), longestExamples())
}

func smallExamples() []wcetExample {
	return []wcetExample{
		{[]impl.Node{block(1)}, 1, 1, nil},
		{[]impl.Node{block(9)}, 9, 9, nil},
		{[]impl.Node{block(3), seq(0, 0)}, 6, 6, nil},
		{[]impl.Node{block(3), block(5), seq(1, 0)}, 8, 8, nil},
		// Branches: B only if it is more expensive.
		{[]impl.Node{block(3), block(5), branch(1, 0, 1)}, 6, 4, []int{1}},
		{[]impl.Node{block(3), block(5), branch(1, 1, 0)}, 6, 4, []int{0}},
		{[]impl.Node{block(3), block(3), branch(9, 0, 1)}, 12, 12, []int{0}},
		{[]impl.Node{block(3), branch(2, 0, 0)}, 5, 5, []int{0}},
		{[]impl.Node{block(4), block(5), branch(1, 1, 0), branch(1, 2, 2)}, 7, 6, []int{0, 0}},
		// Both children cost the same in the worst case, but not in the best one.
		{[]impl.Node{block(4), block(8), loop(2, 0, 1), branch(1, 1, 2)}, 9, 3, []int{0}},
		{[]impl.Node{block(4), block(8), loop(2, 0, 1), branch(1, 2, 1)}, 9, 3, []int{0, 1}},
		// The child with the larger worst case has the smaller best case.
		{[]impl.Node{block(4), block(7), loop(2, 0, 1), branch(1, 1, 2)}, 9, 3, []int{1, 1}},
		// Loops: the test is made once more than the body is executed.
		{[]impl.Node{block(5), loop(1, 0, 0)}, 1, 1, []int{0}},
		{[]impl.Node{block(5), loop(9, 0, 0)}, 9, 9, []int{0}},
		{[]impl.Node{block(5), loop(2, 0, 1)}, 9, 2, []int{1}},
		{[]impl.Node{block(5), loop(2, 0, 4)}, 30, 2, []int{4}},
		{[]impl.Node{block(9), loop(9, 0, 4)}, 81, 9, []int{4}},
		// Nested loops: the inner one is entered anew in every iteration.
		{[]impl.Node{block(1), loop(2, 0, 3), loop(5, 1, 2)}, 5 + 2*(5+11), 5, []int{2, 3, 3}},
		{[]impl.Node{block(1), loop(1, 0, 1), loop(1, 1, 2), loop(1, 2, 2)}, 21, 1, []int{2, 2, 1, 1, 2, 1, 1}},
		{[]impl.Node{block(1), loop(2, 0, 0), loop(3, 1, 4)}, 3 + 4*(3+2), 3, []int{4, 0, 0, 0, 0}},
		// The choices come in the order of execution, not of the nodes.
		{[]impl.Node{block(1), block(2), loop(1, 0, 3), branch(1, 0, 1), seq(3, 2), seq(4, 3)}, 3 + 7 + 3, 2 + 1 + 2, []int{1, 3, 1}},
		{[]impl.Node{block(3), block(5), branch(1, 0, 1), loop(2, 2, 3), seq(0, 3)}, 29, 5, []int{3, 1, 1, 1}},
		{[]impl.Node{block(2), branch(1, 0, 0), loop(4, 1, 2), branch(3, 0, 2), seq(3, 1)}, 3 + 18 + 3, 3 + 2 + 3, []int{1, 2, 0, 0, 0}},
	}
}

// hugeNodes are the nodes of the most expensive program that can be built from n nodes, of which the worst case exceeds MaxWork from the fourth on.
func hugeNodes(n int) []impl.Node {
	nodes := []impl.Node{block(9)}
	for place := 1; place < n; place++ {
		nodes = append(nodes, loop(9, place-1, 4))
	}
	return nodes
}

// reachExamples have nodes that the root does not reach, or reaches only through a loop that never iterates.
func reachExamples() []wcetExample {
	list := []wcetExample{
		{[]impl.Node{block(9), block(2)}, 2, 2, nil},
		{[]impl.Node{block(1), branch(9, 0, 0), block(3), loop(9, 1, 4), seq(0, 2)}, 4, 4, nil},
		{append(slices.Repeat([]impl.Node{block(9)}, 11), block(4)), 4, 4, nil},
	}
	for n := 4; n <= 11; n++ {
		list = append(list,
			wcetExample{append(hugeNodes(n), block(7)), 7, 7, nil},
			wcetExample{append(hugeNodes(n), loop(7, n-1, 0)), 7, 7, []int{0}},
		)
	}
	for n := 4; n <= 10; n++ {
		list = append(list,
			wcetExample{append(hugeNodes(n), loop(5, n-1, 0), branch(2, 0, n)), 11, 7, []int{0}},
			wcetExample{append(hugeNodes(n), loop(5, n-1, 0), branch(2, n, n)), 7, 7, []int{0, 0}},
			wcetExample{append(hugeNodes(n), loop(5, n-1, 0), loop(1, n, 4)), 25, 1, []int{4, 0, 0, 0, 0}},
			wcetExample{append(hugeNodes(n), loop(5, n-1, 0), loop(1, n, 0)), 1, 1, []int{0}},
		)
	}
	return list
}

// longestExamples take exactly MaxWork in the worst case.
func longestExamples() []wcetExample {
	nested := func(outer, middle, inner int) []int {
		var list []int
		list = append(list, outer)
		for range outer {
			list = append(list, middle)
			list = append(list, slices.Repeat([]int{inner}, middle)...)
		}
		return list
	}
	return []wcetExample{
		{[]impl.Node{block(5), loop(2, 0, 4), loop(4, 1, 4), loop(8, 2, 4)}, 600, 8, nested(4, 4, 4)},
		{[]impl.Node{block(3), loop(3, 0, 2), loop(3, 1, 4), seq(2, 2), seq(3, 3), seq(4, 4)}, 600, 24, slices.Repeat([]int{4, 2, 2, 2, 2}, 8)},
		{[]impl.Node{block(4), loop(3, 0, 4), loop(4, 1, 4), loop(3, 2, 4), branch(9, 0, 3)}, 600, 12, append([]int{1}, nested(4, 4, 4)...)},
		{[]impl.Node{block(4), loop(3, 0, 4), loop(4, 1, 4), loop(3, 2, 4), branch(9, 3, 3)}, 600, 12, append([]int{0}, nested(4, 4, 4)...)},
		{[]impl.Node{block(3), loop(4, 0, 4), loop(3, 1, 4), loop(4, 2, 4), branch(8, 3, 0)}, 600, 11, append([]int{0}, nested(4, 4, 4)...)},
		// The whole time is spent in blocks, and with as many nodes as possible.
		{[]impl.Node{block(9), block(6), seq(0, 1), seq(2, 2), seq(3, 2), seq(2, 4), seq(5, 2), seq(6, 6), seq(6, 7), seq(8, 6), seq(9, 7), seq(10, 7)}, 600, 600, nil},
	}
}

// tooLong has programs of valid nodes with a worst case above MaxWork, the first ones by one tick.
func tooLong() [][]impl.Node {
	list := [][]impl.Node{
		{block(4), loop(3, 0, 4), loop(5, 1, 4), loop(1, 2, 4)},
		{block(5), loop(2, 0, 4), loop(4, 1, 4), loop(8, 2, 4), block(1), seq(3, 4)},
		{block(5), loop(2, 0, 4), loop(4, 1, 4), loop(8, 2, 4), block(1), seq(4, 3)},
		{block(3), loop(4, 0, 4), loop(3, 1, 4), loop(4, 2, 4), branch(9, 3, 0)},
		{block(3), loop(4, 0, 4), loop(3, 1, 4), loop(4, 2, 4), branch(9, 0, 3)},
		// Only one of the alternatives is too long.
		{block(9), loop(9, 0, 4), loop(9, 1, 4), loop(9, 2, 4), branch(1, 0, 3)},
		{block(9), loop(9, 0, 4), loop(9, 1, 4), loop(9, 2, 4), branch(1, 3, 0)},
		{block(9), loop(9, 0, 4), loop(9, 1, 4), loop(9, 2, 4), loop(1, 3, 1)},
	}
	for n := 4; n <= 12; n++ {
		list = append(list, hugeNodes(n))
	}
	doubled := []impl.Node{block(9)}
	for place := 1; place < 12; place++ {
		doubled = append(doubled, seq(place-1, place-1))
	}
	return append(list, doubled)
}

// checkInvalid checks the documented results of an invalid program.
func checkInvalid(t *testing.T, prog []impl.Node) {
	t.Helper()
	if impl.ProgramValid(prog) {
		t.Fatalf("ProgramValid(%v) = true", prog)
	}
	if worst, best := impl.Wcet(prog), impl.Bcet(prog); worst != -1 || best != -1 {
		t.Fatalf("Wcet(%v) = %d, Bcet = %d", prog, worst, best)
	}
	for _, choices := range [][]int{nil, {0}, {1, 1, 1}, {math.MinInt}, {math.MaxInt}} {
		if time := impl.RunProgram(prog, choices); time != -1 {
			t.Fatalf("RunProgram(%v, %v) = %d", prog, choices, time)
		}
	}
	if choices := impl.WorstChoices(prog); choices != nil {
		t.Fatalf("WorstChoices(%v) = %v", prog, choices)
	}
}

func TestWcetConstants(t *testing.T) {
	got := []int{impl.NodeBlock, impl.NodeSeq, impl.NodeBranch, impl.NodeLoop, impl.MaxNodes, impl.MaxBlock, impl.MaxBound, impl.MaxWork}
	if !slices.Equal(got, []int{1, 2, 3, 4, 12, 9, 4, 600}) {
		t.Fatal(got)
	}
}

// reached counts how many nodes refer to every node, along the paths from the root.
func reached(prog []impl.Node) []int {
	counts := make([]int, len(prog))
	counts[len(prog)-1] = 1
	for place := len(prog) - 1; place >= 0; place-- {
		n := prog[place]
		if counts[place] == 0 || n.Kind == 1 {
			continue
		}
		counts[n.A]++
		if n.Kind != 4 {
			counts[n.B]++
		}
	}
	return counts
}

func TestWcetTestsSeeEveryKindOfProgram(t *testing.T) {
	var sizes, roots [13]int
	unreached, shared, notIterating, ties, overBody, exact := 0, 0, 0, 0, 0, 0
	for _, p := range validPrograms() {
		sizes[len(p.nodes)]++
		roots[rootOf(p.nodes).Kind]++
		if p.root().worst() == 600 {
			exact++
		}
		for place, count := range reached(p.nodes) {
			n := p.nodes[place]
			if count == 0 {
				unreached++
				continue
			}
			if count > 1 {
				shared++
			}
			if n.Kind == 4 && n.Bound == 0 {
				notIterating++
				if p.all[n.A].longer {
					overBody++
				}
			}
			if n.Kind == 3 && n.A != n.B && p.all[n.A].worst() == p.all[n.B].worst() {
				ties++
			}
		}
	}
	over := len(programs()) - len(validPrograms())
	if slices.Min(sizes[1:]) < 50 || slices.Min(roots[1:5]) < 200 || min(unreached, shared, notIterating) < 500 || min(ties, over) < 50 || overBody < 20 || exact < 5 {
		t.Fatal(sizes, roots, unreached, shared, notIterating, ties, overBody, exact, over)
	}
}

func TestP15Examples(t *testing.T) {
	for _, e := range wcetExamples() {
		if !impl.ProgramValid(e.prog) {
			t.Fatalf("ProgramValid(%v) = false", e.prog)
		}
		if worst, best := impl.Wcet(e.prog), impl.Bcet(e.prog); worst != e.worst || best != e.best {
			t.Fatalf("Wcet(%v) = %d, Bcet = %d, want %d and %d", e.prog, worst, best, e.worst, e.best)
		}
		if choices := impl.WorstChoices(e.prog); !slices.Equal(choices, e.choices) {
			t.Fatalf("WorstChoices(%v) = %v, want %v", e.prog, choices, e.choices)
		}
		if time := impl.RunProgram(e.prog, e.choices); time != e.worst {
			t.Fatalf("RunProgram(%v, %v) = %d, want %d", e.prog, e.choices, time, e.worst)
		}
	}
}

func TestWcetAboveMaxWork(t *testing.T) {
	for _, prog := range tooLong() {
		checkInvalid(t, prog)
	}
	over := 0
	for _, p := range programs() {
		if p.root().longer {
			checkInvalid(t, p.nodes)
			over++
		} else if !impl.ProgramValid(p.nodes) {
			t.Fatalf("ProgramValid(%v) = false", p.nodes)
		}
	}
	if over < 50 {
		t.Fatal(over)
	}
}

func TestWcetAtMaxWork(t *testing.T) {
	// One tick more in a block, or in the test of a branch, is too much.
	raised := 0
	for _, e := range longestExamples() {
		for place, n := range e.prog {
			if n.Kind == 2 || n.Cost == 9 || reached(e.prog)[place] == 0 {
				continue
			}
			prog := slices.Clone(e.prog)
			prog[place].Cost++
			if outcomesOf(prog)[len(prog)-1].longer {
				checkInvalid(t, prog)
				raised++
			}
		}
	}
	if raised < 10 {
		t.Fatal(raised)
	}
}

// nodeValid states the rules for one node, field by field.
func nodeValid(n impl.Node, place int) bool {
	child := func(c int) bool { return c >= 0 && c < place }
	costs := n.Cost >= 1 && n.Cost <= 9
	switch n.Kind {
	case 1:
		return costs && n.A == 0 && n.B == 0 && n.Bound == 0
	case 2:
		return n.Cost == 0 && child(n.A) && child(n.B) && n.Bound == 0
	case 3:
		return costs && child(n.A) && child(n.B) && n.Bound == 0
	case 4:
		return costs && child(n.A) && n.B == 0 && n.Bound >= 0 && n.Bound <= 4
	}
	return false
}

// nodesAround has all combinations of fields around their ranges.
func nodesAround() []impl.Node {
	var nodes []impl.Node
	for kind := -1; kind <= 6; kind++ {
		for _, cost := range []int{-1, 0, 1, 5, 9, 10} {
			for a := -1; a <= 4; a++ {
				for b := -1; b <= 4; b++ {
					for bound := -1; bound <= 5; bound++ {
						nodes = append(nodes, impl.Node{Kind: kind, Cost: cost, A: a, B: b, Bound: bound})
					}
				}
			}
		}
	}
	return nodes
}

func TestP72ExactlyTheValidNodesAreAccepted(t *testing.T) {
	valid := 0
	for _, n := range nodesAround() {
		for place := range 4 {
			before := slices.Repeat([]impl.Node{block(1)}, place)
			for _, prog := range [][]impl.Node{append(before, n), append(before, n, block(1))} {
				want := nodeValid(n, place)
				if got := impl.ProgramValid(prog); got != want {
					t.Fatalf("ProgramValid(%v) = %v", prog, got)
				}
				if want {
					valid++
				} else if worst := impl.Wcet(prog); worst != -1 {
					t.Fatalf("Wcet(%v) = %d", prog, worst)
				}
			}
		}
	}
	// The nodes in the lists above that the rules allow, at four places and in two programs each.
	if valid != 24+28+84+180 {
		t.Fatal(valid)
	}
}

// invalidNodes are invalid at place 2, each by one field, or by its kind alone.
func invalidNodes() []impl.Node {
	nodes := []impl.Node{{}, {Kind: math.MinInt, Cost: 1}, {Kind: -1, Cost: 1}, {Kind: 0, Cost: 1}, {Kind: 5, Cost: 1}, {Kind: 6}, {Kind: math.MaxInt, Cost: 1}}
	for _, x := range []int{math.MinInt, -1, 0, 10, math.MaxInt} {
		nodes = append(nodes, block(x), branch(x, 0, 1), loop(x, 0, 1))
	}
	for _, x := range []int{math.MinInt, -1, 2, 3, 11, 12, math.MaxInt} {
		nodes = append(nodes, seq(x, 0), seq(0, x), seq(x, x), branch(1, x, 0), branch(1, 0, x), branch(1, x, x), loop(1, x, 1), loop(1, x, 0))
	}
	for _, x := range []int{math.MinInt, -1, 5, 6, math.MaxInt} {
		nodes = append(nodes, loop(1, 0, x))
	}
	for _, x := range []int{math.MinInt, -1, 1, math.MaxInt} {
		nodes = append(nodes,
			impl.Node{Kind: 1, Cost: 1, A: x},
			impl.Node{Kind: 1, Cost: 1, B: x},
			impl.Node{Kind: 1, Cost: 1, Bound: x},
			impl.Node{Kind: 2, Cost: x},
			impl.Node{Kind: 2, Bound: x},
			impl.Node{Kind: 3, Cost: 1, Bound: x},
			impl.Node{Kind: 4, Cost: 1, B: x, Bound: 1},
		)
	}
	return nodes
}

// invalidPrograms has invalid nodes as roots, as nodes that the root reaches and as nodes that it does not, and programs of the wrong length.
func invalidPrograms() [][]impl.Node {
	list := [][]impl.Node{nil, {}}
	for _, bad := range invalidNodes() {
		list = append(list,
			[]impl.Node{block(1), block(2), bad},
			[]impl.Node{block(1), block(2), bad, seq(0, 2)},
			[]impl.Node{block(1), block(2), bad, loop(1, 2, 0)},
			[]impl.Node{block(1), block(2), bad, seq(0, 1)},
			[]impl.Node{block(1), block(2), bad, block(3)},
		)
	}
	for _, n := range []impl.Node{seq(0, 0), branch(1, 0, 0), loop(1, 0, 0), loop(1, 0, 4)} {
		list = append(list, []impl.Node{n}, []impl.Node{n, block(1)})
	}
	for _, n := range []int{13, 14, 100, 5000} {
		list = append(list, slices.Repeat([]impl.Node{block(1)}, n), make([]impl.Node, n), append(slices.Repeat([]impl.Node{block(1)}, n-1), seq(0, 1)))
	}
	return list
}

func TestWcetOfInvalidPrograms(t *testing.T) {
	for _, prog := range invalidPrograms() {
		checkInvalid(t, prog)
	}
}

func TestP72TheFirstNodeIsAProgram(t *testing.T) {
	for _, p := range validPrograms() {
		first := p.nodes[:1]
		if !impl.ProgramValid(first) || impl.Wcet(first) != first[0].Cost || impl.Bcet(first) != first[0].Cost || impl.RunProgram(first, []int{1}) != first[0].Cost {
			t.Fatalf("the program %v is invalid, or does not take its cost", first)
		}
	}
}

func TestP72ChildrenPrecedeTheirParents(t *testing.T) {
	referring := 0
	for _, p := range validPrograms() {
		for place, n := range p.nodes {
			for child := place; child <= 13 && n.Kind != 1; child++ {
				prog := slices.Clone(p.nodes)
				prog[place].A = child
				checkInvalid(t, prog)
				prog[place] = n
				prog[place].B = child
				checkInvalid(t, prog)
				referring++
			}
		}
	}
	if referring < 1000 {
		t.Fatal(referring)
	}
}

func TestP72TheNumberOfNodes(t *testing.T) {
	for _, p := range validPrograms() {
		nodes := slices.Clone(p.nodes)
		for len(nodes) < 12 {
			nodes = append(nodes, block(2))
			if !impl.ProgramValid(nodes) || impl.Wcet(nodes) != 2 {
				t.Fatalf("ProgramValid(%v) = false", nodes)
			}
		}
		checkInvalid(t, append(nodes, block(2)))
	}
}

func TestP14TheBoundsAreTheExtremeExecutionTimes(t *testing.T) {
	for _, p := range validPrograms() {
		worst, best := impl.Wcet(p.nodes), impl.Bcet(p.nodes)
		if worst != p.root().worst() || best != p.root().best() {
			t.Fatalf("Wcet(%v) = %d, Bcet = %d, want %d and %d", p.nodes, worst, best, p.root().worst(), p.root().best())
		}
	}
}

func TestP14EveryExecutionLiesBetweenTheBounds(t *testing.T) {
	between := 0
	for i, p := range validPrograms() {
		worst, best := impl.Wcet(p.nodes), impl.Bcet(p.nodes)
		for _, choices := range someChoices(i) {
			time := impl.RunProgram(p.nodes, choices)
			if time < best || time > worst || !p.root().has(time) {
				t.Fatalf("RunProgram(%v, %v) = %d, bounds %d and %d", p.nodes, choices, time, best, worst)
			}
			if want, _ := runByList(p.nodes, choices); time != want {
				t.Fatalf("RunProgram(%v, %v) = %d, want %d", p.nodes, choices, time, want)
			}
			if best < time && time < worst {
				between++
			}
		}
	}
	if between < 1000 {
		t.Fatal(between)
	}
}

func TestP14AllExecutionsOfSmallPrograms(t *testing.T) {
	complete, most := 0, 0
	for _, p := range validPrograms() {
		all := allChoices(p.nodes, 1000)
		if len(all) == 1000 {
			continue
		}
		complete++
		most = max(most, len(all))
		seen := new(big.Int)
		for _, choices := range all {
			time := impl.RunProgram(p.nodes, choices)
			if !p.root().has(time) {
				t.Fatalf("RunProgram(%v, %v) = %d", p.nodes, choices, time)
			}
			seen.SetBit(seen, time, 1)
		}
		if seen.Cmp(p.root().times) != 0 {
			t.Fatalf("not all execution times of %v occur", p.nodes)
		}
	}
	if complete < 1000 || most < 300 {
		t.Fatal(complete, most)
	}
}

func TestP15TheBoundsAreAttained(t *testing.T) {
	for _, p := range validPrograms() {
		choices := impl.WorstChoices(p.nodes)
		if want := worstByOutcomes(p.nodes); !slices.Equal(choices, want) {
			t.Fatalf("WorstChoices(%v) = %v, want %v", p.nodes, choices, want)
		}
		time := impl.RunProgram(p.nodes, choices)
		if time != impl.Wcet(p.nodes) || time != p.root().worst() {
			t.Fatalf("RunProgram(%v, %v) = %d, want %d", p.nodes, choices, time, p.root().worst())
		}
		// There are exactly as many choices as the execution takes.
		if _, taken := runByList(p.nodes, choices); taken != len(choices) {
			t.Fatalf("WorstChoices(%v) = %v, but %d are taken", p.nodes, choices, taken)
		}
	}
}

func checkBounds(t *testing.T, prog []impl.Node, worst, best int) {
	t.Helper()
	if worst > 600 {
		checkInvalid(t, prog)
		return
	}
	if !impl.ProgramValid(prog) || impl.Wcet(prog) != worst || impl.Bcet(prog) != best {
		t.Fatalf("Wcet(%v) = %d, Bcet = %d, want %d and %d", prog, impl.Wcet(prog), impl.Bcet(prog), worst, best)
	}
}

func TestP73BoundsAreComposed(t *testing.T) {
	composed, exact, over := 0, 0, 0
	check := func(prog []impl.Node, worst, best int) {
		t.Helper()
		checkBounds(t, prog, worst, best)
		composed++
		if worst == 600 {
			exact++
		}
		if worst > 600 {
			over++
		}
	}
	for _, p := range validPrograms() {
		last := len(p.nodes) - 1
		if last == 11 {
			continue
		}
		worst, best := impl.Wcet(p.nodes), impl.Bcet(p.nodes)
		with := func(n impl.Node) []impl.Node { return append(slices.Clone(p.nodes), n) }
		check(with(seq(last, last)), 2*worst, 2*best)
		for cost := 1; cost <= 9; cost++ {
			check(with(branch(cost, last, last)), cost+worst, cost+best)
			for bound := range 5 {
				check(with(loop(cost, last, bound)), cost+bound*(cost+worst), cost)
			}
		}
		for other := range p.nodes {
			if o := p.all[other]; !o.longer {
				check(with(seq(last, other)), worst+o.worst(), best+o.best())
				check(with(branch(3, last, other)), 3+max(worst, o.worst()), 3+min(best, o.best()))
			}
		}
	}
	if composed < 100000 || exact < 5 || over < 1000 {
		t.Fatal(composed, exact, over)
	}
}

func TestP74SurplusAndMissingChoices(t *testing.T) {
	surplus, missing := 0, 0
	for i, p := range validPrograms() {
		for _, choices := range someChoices(i) {
			want, taken := runByList(p.nodes, choices)
			for _, more := range [][]int{nil, {0}, {1}, {3, -2, 1}, {math.MinInt, math.MaxInt}} {
				list := slices.Clone(choices)
				if taken <= len(choices) {
					list = append(list[:taken], more...)
					surplus++
				} else {
					list = append(list, make([]int, len(more))...)
					missing++
				}
				if time := impl.RunProgram(p.nodes, list); time != want {
					t.Fatalf("RunProgram(%v, %v) = %d, want %d", p.nodes, list, time, want)
				}
			}
		}
	}
	if min(surplus, missing) < 1000 {
		t.Fatal(surplus, missing)
	}
}

func TestP74MultiplesOfTheAlternatives(t *testing.T) {
	for i, p := range validPrograms() {
		for _, choices := range someChoices(i) {
			want := impl.RunProgram(p.nodes, choices)
			// Every number of alternatives divides 60.
			for _, multiple := range []int{60, -60, 60 * 1000003, -60 * 1000003} {
				list := slices.Clone(choices)
				for k, c := range list {
					if -1000003 <= c && c <= 1000003 {
						list[k] += multiple
					}
				}
				if time := impl.RunProgram(p.nodes, list); time != want {
					t.Fatalf("RunProgram(%v, %v) = %d, with %v %d", p.nodes, choices, want, list, time)
				}
			}
		}
	}
}

func TestP74TheModulusIsNonNegative(t *testing.T) {
	for bound := range 5 {
		prog := []impl.Node{block(2), loop(3, 0, bound)}
		for c := -30; c <= 30; c++ {
			// Every number of alternatives divides 60.
			if time := impl.RunProgram(prog, []int{c}); time != 3+(c+60)%(bound+1)*5 {
				t.Fatalf("RunProgram(%v, %d) = %d", prog, c, time)
			}
		}
		for _, c := range []int{math.MinInt, math.MinInt + 1, math.MinInt + 2, math.MinInt + 4, math.MaxInt - 4, math.MaxInt - 1, math.MaxInt} {
			if time := impl.RunProgram(prog, []int{c}); time != 3+modulo(c, bound+1)*5 {
				t.Fatalf("RunProgram(%v, %d) = %d", prog, c, time)
			}
		}
	}
	prog := []impl.Node{block(2), block(7), branch(1, 0, 1)}
	for c := -9; c <= 9; c++ {
		want := 3
		if (c+10)%2 == 1 {
			want = 8
		}
		if time := impl.RunProgram(prog, []int{c}); time != want {
			t.Fatalf("RunProgram(%v, %d) = %d", prog, c, time)
		}
	}
	if impl.RunProgram(prog, []int{math.MinInt}) != 3 || impl.RunProgram(prog, []int{math.MaxInt}) != 8 {
		t.Fatal("extreme choices")
	}
}

type runExample struct {
	choices []int
	want    int
}

func checkRuns(t *testing.T, prog []impl.Node, list []runExample) {
	t.Helper()
	for _, e := range list {
		if time := impl.RunProgram(prog, e.choices); time != e.want {
			t.Fatalf("RunProgram(%v, %v) = %d, want %d", prog, e.choices, time, e.want)
		}
	}
}

func TestP74ChoicesAreTakenInTheOrderOfExecution(t *testing.T) {
	// A loop around a branch, and the same branch once more after it.
	checkRuns(t, []impl.Node{block(2), block(5), branch(1, 0, 1), loop(3, 2, 2), seq(3, 2)}, []runExample{
		{nil, 3 + 3},
		{[]int{0, 1}, 3 + 6},
		{[]int{0, 0, 1}, 3 + 3},
		{[]int{1}, 3 + (3 + 3) + 3},
		{[]int{1, 1}, 3 + (6 + 3) + 3},
		{[]int{1, 0, 1}, 3 + (3 + 3) + 6},
		{[]int{2, 1, 0, 1}, 3 + (6 + 3) + (3 + 3) + 6},
		{[]int{2, 0, 1, 0, 1}, 3 + (3 + 3) + (6 + 3) + 3},
		{[]int{3, 1, 1, 1}, 3 + 6},
		{[]int{-1, 1, 1, 1}, 3 + (6 + 3) + (6 + 3) + 6},
		{[]int{-2, 1, 1, 1}, 3 + (6 + 3) + 6},
	})
	// A branch between a loop and a block: the loop takes a choice only if it is entered.
	checkRuns(t, []impl.Node{block(1), loop(2, 0, 4), branch(4, 1, 0), seq(2, 2)}, []runExample{
		{nil, 6 + 6},
		{[]int{1, 1}, 5 + 5},
		{[]int{1, 0, 4}, 5 + 4 + 2 + 4*3},
		{[]int{0, 3, 1}, 4 + 2 + 3*3 + 5},
		{[]int{0, 0, 0, 2}, 6 + 4 + 2 + 2*3},
		{[]int{0, 1, 0, 2}, 4 + 2 + 3 + 4 + 2 + 2*3},
	})
}

func TestP74ALoopOfBound0TakesAChoice(t *testing.T) {
	prog := []impl.Node{block(1), block(4), loop(2, 0, 0), branch(3, 0, 1), seq(2, 3)}
	checkRuns(t, prog, []runExample{
		{nil, 6},
		{[]int{1}, 6},
		{[]int{0, 1}, 9},
		{[]int{1, 0}, 6},
		{[]int{math.MinInt, 1}, 9},
		{[]int{math.MaxInt, -2}, 6},
	})
	// The body of a loop that does not iterate takes none.
	checkRuns(t, []impl.Node{block(1), block(4), branch(3, 0, 1), loop(2, 2, 0), loop(5, 3, 1), seq(4, 2)}, []runExample{
		{nil, 5 + 4},
		{[]int{0, 1}, 5 + 7},
		{[]int{1, 1}, 5 + 2 + 5 + 4},
		{[]int{1, 1, 1}, 5 + 2 + 5 + 7},
		{[]int{1, 0, 0, 1}, 5 + 2 + 5 + 4},
	})
}

func TestP74NestedLoops(t *testing.T) {
	checkRuns(t, []impl.Node{block(1), loop(2, 0, 3), loop(5, 1, 2)}, []runExample{
		{nil, 5},
		{[]int{0, 3}, 5},
		{[]int{1}, 5 + 2 + 5},
		{[]int{1, 3}, 5 + 11 + 5},
		{[]int{2, 3, 1}, 5 + 11 + 5 + 5 + 5},
		{[]int{2, 0, 2, 3}, 5 + 2 + 5 + 8 + 5},
		{[]int{-1, -1, -2}, 5 + 11 + 5 + 8 + 5},
		{[]int{5, 7, 6}, 5 + 11 + 5 + 8 + 5},
	})
}

func TestP122MoreExpensiveBlocksNeverShortenTheBounds(t *testing.T) {
	raised, longerWorst, longerBest := 0, 0, 0
	for _, p := range validPrograms() {
		worst, best := impl.Wcet(p.nodes), impl.Bcet(p.nodes)
		if best > worst || best < 1 {
			t.Fatalf("Wcet(%v) = %d, Bcet = %d", p.nodes, worst, best)
		}
		for place, n := range p.nodes {
			if n.Kind == 2 || n.Cost == 9 {
				continue
			}
			prog := slices.Clone(p.nodes)
			prog[place].Cost++
			if o := rootOf(outcomesOf(prog)); o.longer {
				checkInvalid(t, prog)
				continue
			}
			if impl.Wcet(prog) < worst || impl.Bcet(prog) < best {
				t.Fatalf("%v takes %d to %d, %v takes %d to %d", p.nodes, best, worst, prog, impl.Bcet(prog), impl.Wcet(prog))
			}
			raised++
			if impl.Wcet(prog) > worst {
				longerWorst++
			}
			if impl.Bcet(prog) > best {
				longerBest++
			}
		}
	}
	if min(raised, longerWorst, longerBest) < 1000 {
		t.Fatal(raised, longerWorst, longerBest)
	}
}

// withSpareNodes has spare capacity behind the nodes.
func withSpareNodes(prog []impl.Node) []impl.Node {
	return append(slices.Clone(prog), block(8), impl.Node{Kind: -1})[:len(prog)]
}

func equalWithSpareNodes(a, b []impl.Node) bool {
	return slices.Equal(a[:len(a)+2], b[:len(b)+2])
}

func TestWcetFunctionsDoNotWriteToArguments(t *testing.T) {
	progs := invalidPrograms()
	for _, p := range programs() {
		progs = append(progs, p.nodes)
	}
	for i, nodes := range progs {
		prog, untouched := withSpareNodes(nodes), withSpareNodes(nodes)
		impl.ProgramValid(prog)
		impl.Wcet(prog)
		impl.Bcet(prog)
		overwrite(impl.WorstChoices(prog))
		for _, list := range someChoices(i) {
			choices := append(slices.Clone(list), 7, -8)
			impl.RunProgram(prog, choices[:len(list)])
			if !slices.Equal(choices, append(slices.Clone(list), 7, -8)) {
				t.Fatalf("RunProgram(%v, %v) writes to its choices", nodes, list)
			}
		}
		if !equalWithSpareNodes(prog, untouched) {
			t.Fatalf("%v became %v", nodes, prog[:len(prog)+2])
		}
	}
}

func TestWorstChoicesSharesNoMemory(t *testing.T) {
	for _, e := range wcetExamples() {
		prog := slices.Clone(e.prog)
		choices := impl.WorstChoices(prog)
		overwrite(impl.WorstChoices(prog))
		for i := range prog {
			prog[i] = block(1)
		}
		if !slices.Equal(choices, e.choices) {
			t.Fatalf("WorstChoices(%v) changed to %v", e.prog, choices)
		}
	}
}
