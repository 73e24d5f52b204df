package scc_test

import (
	"fmt"
	"math"
	"reflect"
	"slices"
	"testing"

	"plimsoll/scc"
)

// nodes are where a node leads to.
func nodes(list ...int) []int { return list }

// graph is one by where its nodes lead to, from 0 on.
func graph(edges ...[]int) [][]int { return edges }

// told is the beginning of something: long ones would hide what is wrong.
func told(x any) string {
	text := fmt.Sprint(x)
	return text[:min(len(text), 300)]
}

// same: are they the same lists, nil or empty alike?
func same(a, b [][]int) bool {
	return slices.EqualFunc(a, b, slices.Equal)
}

// wantRings holds Rings to an answer whose order is not free.
func wantRings(t *testing.T, edges [][]int, want ...[]int) {
	t.Helper()
	if got := scc.Rings(edges); !same(got, want) {
		t.Errorf("Rings(%s) = %s, want %s", told(edges), told(got), told(want))
	}
}

// wantAmong holds Rings to one of some answers, where the order is free.
func wantAmong(t *testing.T, edges [][]int, wants ...[][]int) {
	t.Helper()
	got := scc.Rings(edges)
	for _, want := range wants {
		if same(got, want) {
			return
		}
	}
	t.Errorf("Rings(%s) = %s, want one of %s", told(edges), told(got), told(wants))
}

func wantCyclic(t *testing.T, edges [][]int, part []int, want bool) {
	t.Helper()
	if got := scc.Cyclic(edges, part); got != want {
		t.Errorf("Cyclic(%s, %s) = %v, want %v", told(edges), told(part), got, want)
	}
}

// comesTo tells of each two nodes whether one comes to the other one: by way of
// more and more nodes.
func comesTo(edges [][]int) [][]bool {
	comes := make([][]bool, len(edges))
	for n := range edges {
		comes[n] = make([]bool, len(edges))
		for _, to := range edges[n] {
			if to >= 0 && to < len(edges) {
				comes[n][to] = true
			}
		}
	}
	for by := range edges {
		for a := range edges {
			for b := range edges {
				if comes[a][by] && comes[by][b] {
					comes[a][b] = true
				}
			}
		}
	}
	return comes
}

// wrong tells what an answer of Rings has that the chapter's words do not allow.
func wrong(edges, parts [][]int) string {
	comes := comesTo(edges)
	at := map[int]int{}
	for i, part := range parts {
		if len(part) == 0 {
			return "a part of nothing"
		}
		for k, n := range part {
			if _, again := at[n]; again || n < 0 || n >= len(edges) {
				return "a node twice, or one that there is not"
			}
			if k > 0 && part[k-1] >= n {
				return "a part that does not rise"
			}
			at[n] = i
		}
	}
	if len(at) != len(edges) {
		return "a node in no part"
	}
	for a := range edges {
		for b := range edges {
			if both := a == b || comes[a][b] && comes[b][a]; both != (at[a] == at[b]) {
				return fmt.Sprint(a, " and ", b, ": in one part, or not")
			}
			if comes[a][b] && at[b] > at[a] {
				return fmt.Sprint(b, " behind ", a, ", which comes to it")
			}
		}
	}
	return ""
}

// wantWords holds Rings to the chapter's words. It stops at the first graph that
// is wrong: many would be.
func wantWords(t *testing.T, edges [][]int) {
	t.Helper()
	parts := scc.Rings(edges)
	if text := wrong(edges, parts); text != "" {
		t.Fatalf("Rings(%s) = %s: %s", told(edges), told(parts), text)
	}
}

// P12.1: nothing, and one node.
func TestSmallest(t *testing.T) {
	wantRings(t, nil)
	wantRings(t, graph())
	wantRings(t, graph(nil), nodes(0))
	wantRings(t, graph(nodes()), nodes(0))
	wantRings(t, graph(nodes(0)), nodes(0))
	wantRings(t, graph(nodes(0, 0)), nodes(0))
}

// P12.1: a part that another one comes to stands ahead of it, by whatever way,
// and whichever of them is met first.
func TestAhead(t *testing.T) {
	wantRings(t, graph(nodes(1), nil), nodes(1), nodes(0))
	wantRings(t, graph(nil, nodes(0)), nodes(0), nodes(1))
	wantRings(t, graph(nodes(1), nodes(2), nodes(3), nil), nodes(3), nodes(2), nodes(1), nodes(0))
	wantRings(t, graph(nil, nodes(0), nodes(1), nodes(2)), nodes(0), nodes(1), nodes(2), nodes(3))
	wantRings(t, graph(nodes(2), nodes(0), nil), nodes(2), nodes(0), nodes(1))
	wantRings(t, graph(nodes(1, 2), nodes(2), nil), nodes(2), nodes(1), nodes(0))
	wantRings(t, graph(nodes(2, 1), nil, nodes(1)), nodes(1), nodes(2), nodes(0))
	wantRings(t, graph(nodes(3), nodes(2), nodes(1, 0), nil), nodes(3), nodes(0), nodes(1, 2))
	wantRings(t, graph(nodes(1), nodes(0), nodes(1)), nodes(0, 1), nodes(2))
	wantRings(t, graph(nodes(1), nodes(2), nodes(3), nodes(2)), nodes(2, 3), nodes(1), nodes(0))
}

// P12.1: else the order is free.
func TestFreeOrder(t *testing.T) {
	zero, one, two := nodes(0), nodes(1), nodes(2)
	wantAmong(t, graph(nil, nil), graph(zero, one), graph(one, zero))
	wantAmong(t, graph(nodes(1, 2), nil, nil), graph(one, two, zero), graph(two, one, zero))
	wantAmong(t, graph(nil, nodes(0), nodes(0)), graph(zero, one, two), graph(zero, two, one))
	wantAmong(t, graph(nodes(2), nil, nodes(0)), graph(nodes(0, 2), one), graph(one, nodes(0, 2)))
}

// P12.1: two are in one part, if each comes to the other one; each part rises.
func TestOnePart(t *testing.T) {
	wantRings(t, graph(nodes(1), nodes(0)), nodes(0, 1))
	wantRings(t, graph(nodes(2), nodes(0), nodes(1)), nodes(0, 1, 2))
	wantRings(t, graph(nodes(1), nodes(2), nodes(0)), nodes(0, 1, 2))
	wantRings(t, graph(nodes(4), nodes(0), nodes(3), nodes(1), nodes(2)), nodes(0, 1, 2, 3, 4))
	wantRings(t, graph(nodes(3), nodes(0), nodes(3), nodes(2, 1)), nodes(0, 1, 2, 3))
	wantRings(t, graph(nodes(1, 2), nodes(0), nodes(0)), nodes(0, 1, 2))
	wantRings(t, graph(nodes(1, 1, 1), nodes(1, 0, 1, 0)), nodes(0, 1))
}

// P12.1: rings that lead to each other are two, if only one of them does.
func TestTwoRings(t *testing.T) {
	wantRings(t, graph(nodes(1), nodes(0, 2), nodes(3), nodes(2)), nodes(2, 3), nodes(0, 1))
	wantRings(t, graph(nodes(1), nodes(0), nodes(3), nodes(2, 0)), nodes(0, 1), nodes(2, 3))
	wantRings(t, graph(nodes(2), nodes(3), nodes(0, 3), nodes(1)), nodes(1, 3), nodes(0, 2))
	wantRings(t, graph(nodes(1), nodes(0, 2), nodes(3), nodes(2, 0)), nodes(0, 1, 2, 3))
	// 0 meets the ring of 1 and 2 by its last edge, when 3 has been there.
	wantRings(t, graph(nodes(3, 1), nodes(2), nodes(1), nodes(2)), nodes(1, 2), nodes(3), nodes(0))
	// 1 comes back to 0 by way of 2, which was left before 1 was met.
	wantRings(t, graph(nodes(3), nodes(2), nodes(0), nodes(2, 1)), nodes(0, 1, 2, 3))
}

// P12.1, R1: nodes that there are not do not count, nor do they hold up those
// that there are.
func TestNoNode(t *testing.T) {
	wantRings(t, graph(nodes(-1), nodes(2)), nodes(0), nodes(1))
	wantRings(t, graph(nodes(math.MinInt, 1, math.MaxInt), nodes(2, -1)), nodes(1), nodes(0))
	wantRings(t, graph(nodes(2, -1, 1), nodes(-2, 3, 0)), nodes(0, 1))
	wantRings(t, graph(nodes(math.MinInt, -1, 1, math.MaxInt)), nodes(0))
	for _, to := range nodes(math.MinInt, math.MinInt+1, -3, -1, 3, 4, 1<<32, math.MaxInt-1, math.MaxInt) {
		wantRings(t, graph(nodes(to, 1), nodes(to, 2, to), nodes(1, to)), nodes(1, 2), nodes(0))
		wantRings(t, graph(nodes(to), nodes(0, to), nodes(to, 1)), nodes(0), nodes(1), nodes(2))
	}
}

// chosen are those of a list that the bits of a number name.
func chosen(list []int, bits int) []int {
	var some []int
	for k, n := range list {
		if bits>>k&1 == 1 {
			some = append(some, n)
		}
	}
	return some
}

// allGraphs hands on each graph of some nodes that lead to some of a list, till
// one is wrong.
func allGraphs(t *testing.T, many int, list []int, look func([][]int)) {
	for bits := range 1 << (many * len(list)) {
		if t.Failed() {
			return
		}
		edges := make([][]int, many)
		for n := range edges {
			edges[n] = chosen(list, bits>>(n*len(list)))
		}
		look(edges)
	}
}

// P12.1: all graphs of up to four nodes, their edges in two orders, and of up
// to two with nodes that there are not.
func TestAllSmallGraphs(t *testing.T) {
	words := func(edges [][]int) { wantWords(t, edges) }
	rising, falling := nodes(0, 1, 2, 3), nodes(3, 2, 1, 0)
	for many := range 5 {
		allGraphs(t, many, rising[:many], words)
		allGraphs(t, many, falling[4-many:], words)
	}
	allGraphs(t, 2, nodes(2, 1, -1, 0, 1), words)
	allGraphs(t, 3, nodes(3, 1, 0, 2, -1), words)
}

// mixed are numbers below a limit, each made of the one ahead of it.
func mixed(seed uint64) func(int) int {
	return func(limit int) int {
		seed = seed*6364136223846793005 + 1442695040888963407
		return int(seed >> 33 % uint64(limit))
	}
}

// P12.1: graphs of up to thirty nodes, with few edges and with many.
func TestMixedGraphs(t *testing.T) {
	next := mixed(12)
	for round := range 4000 {
		many := 1 + round%30
		edges := make([][]int, many)
		for range next(2*many + 1) {
			n := next(many)
			edges[n] = append(edges[n], next(many+2)-1)
		}
		wantWords(t, edges)
	}
}

// row is a graph whose nodes lead to the next one, by a step, each.
func row(many, step int) [][]int {
	edges := make([][]int, many)
	for n := range edges {
		edges[n] = nodes(n + step)
	}
	return edges
}

// P12.1, R8: far more nodes than an applet has methods, one behind the other,
// either way, and round.
func TestLongWay(t *testing.T) {
	const many = 200000
	edges := row(many, 1)
	down := scc.Rings(edges)
	up := scc.Rings(row(many, -1))
	if len(down) != many || len(up) != many {
		t.Fatalf("Rings of rows: %d and %d", len(down), len(up))
	}
	for n := range many {
		if !slices.Equal(up[n], nodes(n)) || !slices.Equal(down[n], nodes(many-1-n)) {
			t.Fatalf("Rings of rows: %v and %v", up[n], down[n])
		}
	}
	edges[many-1] = nodes(many / 2)
	half := scc.Rings(edges)
	if len(half) != many/2+1 || len(half[0]) != many/2 || half[0][0] != many/2 || !slices.IsSorted(half[0]) {
		t.Errorf("Rings of a way to a ring: %d", len(half))
	}
	edges[many-1] = nodes(0)
	round := scc.Rings(edges)
	if len(round) != 1 || len(round[0]) != many || round[0][0] != 0 || round[0][many-1] != many-1 {
		t.Errorf("Rings of a long ring: %d", len(round))
	}
	wantCyclic(t, edges, round[0], true)
	edges[many-1] = nil
	wantCyclic(t, edges, nodes(many-1, -1, many), false)
}

// P12.1: a node that leads to all others, and one that all others lead to.
func TestStars(t *testing.T) {
	const many = 100000
	away, home := make([][]int, many), make([][]int, many)
	for n := range many - 1 {
		away[many-1] = append(away[many-1], n)
		home[n] = nodes(many - 1)
	}
	parts := scc.Rings(away)
	if len(parts) != many || !slices.Equal(parts[many-1], nodes(many-1)) {
		t.Errorf("Rings of all from one: %d", len(parts))
	}
	parts = scc.Rings(home)
	if len(parts) != many || !slices.Equal(parts[0], nodes(many-1)) {
		t.Errorf("Rings of all to one: %d", len(parts))
	}
	home[many-1] = away[many-1]
	if parts = scc.Rings(home); len(parts) != 1 || len(parts[0]) != many || !slices.IsSorted(parts[0]) {
		t.Errorf("Rings of all to one and back: %d", len(parts))
	}
}

// P12.1: a part of one node is cyclic if that leads to itself, a greater one if
// any of it leads to any of it.
func TestCyclic(t *testing.T) {
	edges := graph(nodes(1), nodes(2, 3), nodes(0), nodes(4, 4), nodes(3, 9, -1), nodes(5), nil, nodes(6, 0))
	wantCyclic(t, edges, nodes(0, 1, 2), true)
	wantCyclic(t, edges, nodes(3, 4), true)
	wantCyclic(t, edges, nodes(5), true)
	for _, n := range nodes(0, 1, 2, 3, 4, 6, 7) {
		wantCyclic(t, edges, nodes(n), false)
	}
	// It need not be a whole part, nor only one, nor in some order.
	wantCyclic(t, edges, nodes(0, 1), true)
	wantCyclic(t, edges, nodes(1, 0), true)
	wantCyclic(t, edges, nodes(7, 6), true)
	wantCyclic(t, edges, nodes(6, 5), true)
	wantCyclic(t, edges, nodes(1, 7, 4), false)
	wantCyclic(t, edges, nodes(0, 3, 6), false)
	// It comes back by a node that it does not have.
	wantCyclic(t, graph(nodes(1), nodes(0)), nodes(0), false)
	wantCyclic(t, graph(nodes(2), nodes(0), nodes(1)), nodes(0, 1), true)
	wantCyclic(t, graph(nodes(2), nil, nodes(1)), nodes(0, 1), false)
	// The last edge of the last one is the only one.
	wantCyclic(t, graph(nodes(2), nil, nil, nodes(2, 2, 1)), nodes(0, 1, 3), true)
	wantCyclic(t, graph(nodes(2), nil, nil, nodes(2, 2, 4)), nodes(0, 1, 3), false)
}

// P12.1: nothing leads nowhere.
func TestCyclicNothing(t *testing.T) {
	wantCyclic(t, nil, nil, false)
	wantCyclic(t, graph(nodes(0)), nil, false)
	wantCyclic(t, graph(nodes(0)), nodes(), false)
	wantCyclic(t, nil, nodes(0), false)
	wantCyclic(t, graph(nil), nodes(0), false)
	wantCyclic(t, graph(nodes()), nodes(0, 0), false)
}

// P12.1: one that there is not may be led to, if the part has it, but leads
// nowhere.
func TestCyclicNoNode(t *testing.T) {
	for _, n := range nodes(math.MinInt, -2, -1, 2, 3, 1<<32, math.MaxInt) {
		edges := graph(nodes(n), nodes(7, n))
		wantCyclic(t, edges, nodes(0, n), true)
		wantCyclic(t, edges, nodes(n, 1), true)
		wantCyclic(t, edges, nodes(n), false)
		wantCyclic(t, edges, nodes(n, n), false)
		wantCyclic(t, edges, nodes(0, 1), false)
		wantCyclic(t, edges, nodes(0, 6), false)
		wantCyclic(t, graph(nodes(0)), nodes(n+2, n), n == -2)
		wantCyclic(t, graph(nodes(1), nil), nodes(0, n), false)
	}
	wantCyclic(t, graph(nodes(9)), nodes(0, -1, 1, 8, 10), false)
	wantCyclic(t, graph(nodes(9)), nodes(0, -1, 1, 8, 10, 9), true)
}

// P12.1: one that the part has more than once is one of it.
func TestCyclicTwice(t *testing.T) {
	wantCyclic(t, graph(nodes(1), nil), nodes(0, 0, 0), false)
	wantCyclic(t, graph(nodes(1), nil), nodes(0, 1, 0), true)
	wantCyclic(t, graph(nodes(1), nodes(1)), nodes(1, 1), true)
}

// cyclicWords is Cyclic by the chapter's words.
func cyclicWords(edges [][]int, part []int) bool {
	for _, from := range part {
		for _, to := range part {
			if from >= 0 && from < len(edges) && slices.Contains(edges[from], to) {
				return true
			}
		}
	}
	return false
}

// P12.1: all parts of all graphs of up to three nodes, some of which lead to
// nodes that there are not.
func TestAllSmallParts(t *testing.T) {
	all := func(list []int) func([][]int) {
		return func(edges [][]int) {
			for bits := range 1 << len(list) {
				part := chosen(list, bits)
				wantCyclic(t, edges, part, cyclicWords(edges, part))
			}
		}
	}
	ends := nodes(2, 0, -1, 3, 1)
	for many := range 3 {
		allGraphs(t, many, ends, all(ends))
	}
	allGraphs(t, 3, nodes(1, 0, 3, 2), all(ends))
}

// P12.1: a part of Rings is cyclic if it has two nodes, or one that leads to
// itself.
func TestRingsCyclic(t *testing.T) {
	allGraphs(t, 3, nodes(0, 1, 2), func(edges [][]int) {
		for _, part := range scc.Rings(edges) {
			wantCyclic(t, edges, part, len(part) > 1 || slices.Contains(edges[part[0]], part[0]))
		}
	})
}

// roomy is a list with spare room, in which there is something.
func roomy[T any](list []T, spare T) []T {
	return append(slices.Clone(list), spare, spare, spare)[:len(list)]
}

// roomyGraph is one with spare room, in which there is something that would
// count, if it were there.
func roomyGraph() [][]int {
	edges := graph(nodes(4), nodes(0, 2), nodes(3), nodes(2, 0), nodes(0))
	for n := range edges {
		edges[n] = roomy(edges[n], 1)
	}
	return roomy(edges, nodes(0, 1, 2, 3, 4, 5))
}

// whole is a graph, or an answer, with the spare room of its lists.
func whole(lists [][]int) string {
	var all []any
	for _, list := range lists[:cap(lists)] {
		all = append(all, list, list[:cap(list)])
	}
	return fmt.Sprint(all)
}

// R4: what is handed in stays as it is, spare room included, and what lies
// there does not count.
func TestKeepsGraph(t *testing.T) {
	edges, part := roomyGraph(), roomy(nodes(1), 0)
	before, partBefore := whole(edges), whole(graph(part))
	wantRings(t, edges, nodes(0, 4), nodes(2, 3), nodes(1))
	wantCyclic(t, edges, part, false)
	wantCyclic(t, edges, nodes(5), false)
	wantCyclic(t, edges, roomy(nodes(3, 0, 1), 2), true)
	if whole(edges) != before || whole(graph(part)) != partBefore {
		t.Errorf("it is changed: %s, %v", told(edges), part)
	}
}

// R4: an answer shares no memory with what was handed in, or with another
// answer, nor do its parts with each other, spare room included.
func TestAnswersApart(t *testing.T) {
	edges := roomyGraph()
	before := whole(edges)
	first, other := scc.Rings(edges), scc.Rings(edges)
	want := whole(other)
	for i := range first {
		part := first[i][:cap(first[i])]
		for k := range part {
			part[k] = 70 + i
		}
	}
	for i := range first {
		for _, n := range first[i][:cap(first[i])] {
			if n != 70+i {
				t.Errorf("part %d changed with another one: %v", i, first)
			}
		}
	}
	first = first[:cap(first)]
	for i := range first {
		first[i] = nodes(77)
	}
	if whole(other) != want {
		t.Errorf("one answer changed with another one: %v", other)
	}
	if whole(edges) != before {
		t.Errorf("the graph changed with an answer: %s", told(edges))
	}
	wantRings(t, edges, nodes(0, 4), nodes(2, 3), nodes(1))
	// What was handed in changes no answer.
	for n := range edges {
		list := edges[n][:cap(edges[n])]
		for k := range list {
			list[k] = n
		}
	}
	if whole(other) != want {
		t.Errorf("an answer changed with the graph: %v", other)
	}
}

// R5: the same, however often it is asked, and whatever was asked in between.
func TestAgain(t *testing.T) {
	edges := graph(nil, nodes(0), nodes(0, 3), nodes(2), nil, nodes(4, 6), nodes(5), nil, nil, nodes(9))
	first := scc.Rings(edges)
	for range 200 {
		if got := scc.Rings(edges); !reflect.DeepEqual(got, first) {
			t.Errorf("Rings: %v, then %v", first, got)
		}
		wantCyclic(t, edges, nodes(5, 0, 9, 1, 7), true)
		wantCyclic(t, edges, nodes(5, 0, 8, 2, 7, 4), true)
		wantCyclic(t, edges, nodes(5, 0, 8, 3, 7), false)
		wantRings(t, graph(nodes(1), nodes(0)), nodes(0, 1))
	}
}
