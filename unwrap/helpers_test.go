package unwrap_test

import (
	"math"
	"reflect"
	"slices"
	"testing"

	"swath/api"
)

const void = api.PhaseVoid

// expect compares a value with its error code; a nil slice and an empty one are the same.
func expect[T any](t *testing.T, what string, got T, err api.Errno, want T, wantErr api.Errno) {
	t.Helper()
	g, w := reflect.ValueOf(&got).Elem(), reflect.ValueOf(&want).Elem()
	empty := g.Kind() == reflect.Slice && g.Len() == 0 && w.Len() == 0
	if !empty && !reflect.DeepEqual(got, want) || err != wantErr {
		t.Errorf("%s: %v, error %d; want %v, error %d", what, got, err, want, wantErr)
	}
}

func expectError(t *testing.T, what string, err, want api.Errno) {
	t.Helper()
	if err != want {
		t.Errorf("%s: error %d, want %d", what, err, want)
	}
}

func edge(from, to, jump, weight int) api.UnwrapEdge {
	return api.UnwrapEdge{From: from, To: to, Jump: jump, Weight: weight}
}

func net(nodes int, edges ...api.UnwrapEdge) api.UnwrapNet {
	return api.UnwrapNet{Nodes: nodes, Edges: edges}
}

// triangle is the net of the chapter's examples, with three weights.
func triangle(a, b, c int) api.UnwrapNet {
	return net(3, edge(0, 1, 1, a), edge(1, 2, 0, b), edge(2, 0, 0, c))
}

func span(lo, hi int) api.Range { return api.Range{Lo: lo, Hi: hi} }

func phases(rows, columns int, data ...int) api.PhaseMap {
	return api.PhaseMap{Rows: rows, Columns: columns, Phases: data}
}

func row(data ...int) api.PhaseMap { return phases(1, len(data), data...) }

func floats(rows, columns int, data ...float32) api.FloatMap {
	return api.FloatMap{Rows: rows, Columns: columns, Data: data}
}

func task(m api.PhaseMap, across, down []int) api.UnwrapTask {
	return api.UnwrapTask{Map: m, Across: across, Down: down}
}

// evenTask gives each pair of neighbours the same weight.
func evenTask(m api.PhaseMap, weight int) api.UnwrapTask {
	return task(m, equal(m.Rows*(m.Columns-1), weight), equal((m.Rows-1)*m.Columns, weight))
}

// square is the task of the chapter's examples.
func square() api.UnwrapTask {
	return task(phases(2, 2, 0, 1500, -1500, -1096), []int{5, 4}, []int{3, 2})
}

func equal(count, n int) []int { return slices.Repeat([]int{n}, max(count, 0)) }

func size(n int) int { return max(n, -n) }

func copyOfNet(n api.UnwrapNet) api.UnwrapNet {
	n.Edges = slices.Clone(n.Edges)
	return n
}

func copyOfMap(m api.PhaseMap) api.PhaseMap {
	m.Phases = slices.Clone(m.Phases)
	return m
}

func copyOfTask(t api.UnwrapTask) api.UnwrapTask {
	return task(copyOfMap(t.Map), slices.Clone(t.Across), slices.Clone(t.Down))
}

// source gives the same numbers in each run.
type source int

func (s *source) below(n int) int {
	*s = (*s*1103515245 + 12345) % 2147483648
	return int(*s) / 8 % n
}

func (s *source) from(lo, hi int) int { return lo + s.below(hi-lo+1) }

func (s *source) numbers(count, lo, hi int) []int {
	var l []int
	for range count {
		l = append(l, s.from(lo, hi))
	}
	return l
}

// net gives a net; one edge of four has the weight 0 if zeros are asked for.
func (s *source) net(nodes, edges, jump, weight int, zeros bool) api.UnwrapNet {
	n := net(nodes)
	for range edges {
		from := s.below(nodes)
		e := edge(from, (from+s.from(1, nodes-1))%nodes, s.from(-jump, jump), s.from(1, weight))
		if zeros && s.below(4) == 0 {
			e.Weight = 0
		}
		n.Edges = append(n.Edges, e)
	}
	return n
}

// task gives a task; one pixel of so many is void, or none if voids is 0.
func (s *source) task(rows, columns, least, weight, voids int) api.UnwrapTask {
	m := phases(rows, columns, s.numbers(rows*columns, -2048, 2047)...)
	for i := range m.Phases {
		if voids > 0 && s.below(voids) == 0 {
			m.Phases[i] = void
		}
	}
	return task(m, s.numbers(rows*(columns-1), least, weight), s.numbers((rows-1)*columns, least, weight))
}

// wrapped is the definition of wrapping.
func wrapped(n int) int {
	for n < -2048 {
		n += 4096
	}
	for n > 2047 {
		n -= 4096
	}
	return n
}

// cost is the definition of the cost of turns.
func cost(n api.UnwrapNet, turns []int) int {
	sum := 0
	for _, e := range n.Edges {
		sum += e.Weight * size(turns[e.To]-turns[e.From]+e.Jump)
	}
	return sum
}

// joins tells by the definition whether edges with a weight lead from one node to another one.
func joins(n api.UnwrapNet, from, to int) bool {
	reached := []int{from}
	for i := 0; i < len(reached); i++ {
		for _, e := range n.Edges {
			for _, way := range [2][2]int{{e.From, e.To}, {e.To, e.From}} {
				if e.Weight > 0 && way[0] == reached[i] && !slices.Contains(reached, way[1]) {
					reached = append(reached, way[1])
				}
			}
		}
	}
	return slices.Contains(reached, to)
}

// numbered numbers nodes from 0 on, those that are together alike, by the least ones.
func numbered(nodes int, together func(a, b int) bool) []int {
	var numbers []int
	count := 0
	for node := range nodes {
		number := count
		for before := range node {
			if together(before, node) {
				number = numbers[before]
				break
			}
		}
		if number == count {
			count++
		}
		numbers = append(numbers, number)
	}
	return numbers
}

// allBest is the definition of best turns: all those that are 0 at the least node of each part. Elsewhere best turns are at most the sum of the greatest jumps on a way through all nodes.
func allBest(n api.UnwrapNet) ([][]int, int) {
	parts := numbered(n.Nodes, func(a, b int) bool { return joins(n, a, b) })
	reach := 0
	for _, e := range n.Edges {
		reach = max(reach, size(e.Jump))
	}
	reach *= max(n.Nodes-1, 0)
	var found [][]int
	least := math.MaxInt
	turns := make([]int, n.Nodes)
	var try func(node int)
	try = func(node int) {
		if node == n.Nodes {
			c := cost(n, turns)
			if c < least {
				found, least = nil, c
			}
			if c == least {
				found = append(found, slices.Clone(turns))
			}
			return
		}
		lo, hi := -reach, reach
		if slices.Index(parts, parts[node]) == node {
			lo, hi = 0, 0
		}
		for turns[node] = lo; turns[node] <= hi; turns[node]++ {
			try(node + 1)
		}
	}
	try(0)
	return found, least
}

// between is the definition of the least and the greatest difference of two nodes in best turns.
func between(best [][]int, from, to int) api.Range {
	r := span(math.MaxInt, math.MinInt)
	for _, turns := range best {
		r.Lo, r.Hi = min(r.Lo, turns[to]-turns[from]), max(r.Hi, turns[to]-turns[from])
	}
	return r
}

type netFault struct {
	what string
	n    api.UnwrapNet
	at   int
	err  api.Errno
}

// netFaults are nets with errors, beside the number that CheckNet gives.
func netFaults() []netFault {
	good := edge(0, 1, 0, 0)
	many := slices.Repeat([]api.UnwrapEdge{good}, 601)
	return []netFault{
		{"nodes below 0", net(-1), 0, api.ErrRange},
		{"201 nodes", net(201), 0, api.ErrRange},
		{"the greatest number of nodes", net(math.MaxInt, good), 0, api.ErrRange},
		{"the least number of nodes", net(math.MinInt), 0, api.ErrRange},
		{"601 edges", net(2, many...), 0, api.ErrLarge},
		{"601 edges with a wrong one", net(1, many...), 0, api.ErrLarge},
		{"201 nodes with 601 edges", net(201, many...), 0, api.ErrRange},
		{"an edge without nodes", net(0, good), 0, api.ErrMissing},
		{"no node From", net(2, good, edge(2, 1, 0, 0)), 1, api.ErrMissing},
		{"no node To", net(2, good, good, edge(0, 2, 0, 0)), 2, api.ErrMissing},
		{"From below 0", net(2, edge(-1, 1, 0, 0)), 0, api.ErrMissing},
		{"To below 0", net(2, edge(1, -1, 0, 0)), 0, api.ErrMissing},
		{"the greatest From", net(2, edge(math.MaxInt, 1, 0, 0)), 0, api.ErrMissing},
		{"the least To", net(2, edge(0, math.MinInt, 0, 0)), 0, api.ErrMissing},
		{"the same node that is missing", net(2, edge(2, 2, 0, 0)), 0, api.ErrMissing},
		{"a missing node with a great jump", net(2, edge(0, 2, 1001, -1)), 0, api.ErrMissing},
		{"the same node", net(2, good, edge(1, 1, 0, 0)), 1, api.ErrForm},
		{"the same node with a great jump", net(2, edge(1, 1, 1001, 0)), 0, api.ErrForm},
		{"the same node with a great weight", net(2, edge(0, 0, 0, 1001)), 0, api.ErrForm},
		{"a jump of 1001", net(2, good, edge(0, 1, 1001, 0)), 1, api.ErrRange},
		{"a jump of -1001", net(2, edge(0, 1, -1001, 0)), 0, api.ErrRange},
		{"the least jump of all", net(2, edge(0, 1, math.MinInt, 0)), 0, api.ErrRange},
		{"the greatest jump of all", net(2, edge(0, 1, math.MaxInt, 0)), 0, api.ErrRange},
		{"a weight below 0", net(2, good, edge(0, 1, 0, -1)), 1, api.ErrRange},
		{"a weight of 1001", net(2, edge(0, 1, 0, 1001)), 0, api.ErrRange},
		{"the least weight of all", net(2, edge(0, 1, 0, math.MinInt)), 0, api.ErrRange},
		{"the greatest weight of all", net(2, edge(0, 1, 0, math.MaxInt)), 0, api.ErrRange},
		{"two wrong edges", net(2, good, edge(0, 0, 0, 0), edge(0, 2, 0, 0)), 1, api.ErrForm},
		{"two wrong edges the other way round", net(2, good, edge(0, 1, 0, -1), edge(0, 0, 0, 0)), 1, api.ErrRange},
	}
}

type mapFault struct {
	what string
	m    api.PhaseMap
	err  api.Errno
}

func sizeFaults() []mapFault {
	return []mapFault{
		{"nothing", api.PhaseMap{}, api.ErrRange},
		{"no rows", phases(0, 1), api.ErrRange},
		{"rows below 0", phases(-1, -1, 1), api.ErrRange},
		{"65 rows", phases(65, 1, make([]int, 65)...), api.ErrRange},
		{"no columns", phases(1, 0), api.ErrRange},
		{"65 columns", phases(1, 65, make([]int, 65)...), api.ErrRange},
		{"sizes whose product is 0", phases(math.MinInt, 2), api.ErrRange},
		{"too few phases", phases(2, 2, 1, 2, 3), api.ErrShape},
		{"too many phases", phases(1, 1, 1, math.MaxInt), api.ErrShape},
		{"no phases", phases(1, 1), api.ErrShape},
		{"phases and no rows", phases(0, 1, math.MaxInt), api.ErrRange},
	}
}

// wrappedFaults are maps that are not wrapped.
func wrappedFaults() []mapFault {
	return []mapFault{
		{"2048", row(2047, 2048), api.ErrRange},
		{"-2049", phases(2, 1, -2048, -2049), api.ErrRange},
		{"nearly void", row(void, void-1), api.ErrRange},
		{"more than void", row(void+1, void), api.ErrRange},
		{"void below 0", row(-void), api.ErrRange},
		{"the greatest number of all", row(0, math.MaxInt), api.ErrRange},
		{"the least number of all", row(math.MinInt), api.ErrRange},
	}
}

// phaseFaults are maps with phases that are too great.
func phaseFaults() []mapFault {
	return []mapFault{
		{"10^8 and 1", row(100000000, 100000001), api.ErrRange},
		{"less than -10^8", phases(2, 1, -100000000, -100000001), api.ErrRange},
		{"nearly void", row(void, 0, void-1), api.ErrRange},
		{"more than void", row(void + 1), api.ErrRange},
		{"void below 0", row(-void), api.ErrRange},
		{"the greatest number of all", row(void, math.MaxInt), api.ErrRange},
		{"the least number of all", row(math.MinInt), api.ErrRange},
	}
}

type taskFault struct {
	what string
	t    api.UnwrapTask
	err  api.Errno
}

// taskFaults are tasks with errors.
func taskFaults() []taskFault {
	var faults []taskFault
	for _, x := range append(sizeFaults(), wrappedFaults()...) {
		rows, columns := min(max(x.m.Rows, 0), 65), min(max(x.m.Columns, 1), 65)
		faults = append(faults, taskFault{x.what, task(x.m, equal(rows*(columns-1), 1), equal((rows-1)*columns, 1)), x.err})
		faults = append(faults, taskFault{x.what + ", and no weights", task(x.m, nil, nil), x.err})
	}
	flat := phases(2, 2, 0, 0, 0, 0)
	great := phases(5, 29, slices.Repeat([]int{5000}, 145)...)
	return append(faults,
		taskFault{"145 pixels", evenTask(phases(5, 29, make([]int, 145)...), 1), api.ErrLarge},
		taskFault{"145 pixels that are not wrapped", task(great, nil, nil), api.ErrLarge},
		taskFault{"144 pixels too few", task(phases(5, 29, 5000), nil, nil), api.ErrShape},
		taskFault{"no weights", task(flat, nil, nil), api.ErrShape},
		taskFault{"too few weights across", task(flat, []int{1}, []int{1, 1}), api.ErrShape},
		taskFault{"too many weights across", task(flat, []int{1, 1, -1}, []int{1, 1}), api.ErrShape},
		taskFault{"too few weights down", task(flat, []int{1, -1}, []int{1}), api.ErrShape},
		taskFault{"too many weights down", task(flat, []int{1, 1}, []int{1, 1, 1}), api.ErrShape},
		taskFault{"weights of the other shape", task(phases(1, 3, 0, 0, 0), nil, []int{1, 1}), api.ErrShape},
		taskFault{"a weight across below 0", task(flat, []int{0, -1}, []int{1, 1}), api.ErrRange},
		taskFault{"a weight across of 1001", task(flat, []int{1001, 1}, []int{1, 1}), api.ErrRange},
		taskFault{"a weight down below 0", task(flat, []int{1, 1}, []int{1, -1}), api.ErrRange},
		taskFault{"a weight down of 1001", task(flat, []int{1, 1}, []int{1001, 0}), api.ErrRange},
		taskFault{"the greatest weight of all", task(flat, []int{1, 1}, []int{math.MaxInt, 0}), api.ErrRange},
		taskFault{"the least weight of all", task(flat, []int{math.MinInt, 1}, []int{1, 0}), api.ErrRange},
		taskFault{"a wrong weight between void pixels", task(phases(2, 2, void, void, void, void), []int{-1, 1}, []int{1, 0}), api.ErrRange},
	)
}
