package match_test

import (
	"math"
	"math/big"
	"testing"

	"swath/api"
	"swath/match"
)

// wrongTasks are tasks out of range, each by one number.
func wrongTasks() []api.MatchTask {
	return []api.MatchTask{
		{},
		task(0, 1, 1, 0, 0, 0), task(9, 1, 1, 0, 0, 0), task(math.MinInt, 1, 1, 0, 0, 0),
		task(1, 0, 1, 0, 0, 0), task(1, 9, 1, 0, 0, 0), task(1, math.MaxInt, 1, 0, 0, 0),
		task(1, 1, 0, 0, 0, 0), task(1, 1, 65, 0, 0, 0), task(1, 1, -1, 0, 0, 0),
		task(1, 1, 1, -1, 0, 0), task(1, 1, 1, 5, 0, 0), task(1, 1, 1, math.MaxInt, 0, 0),
		task(1, 1, 1, 0, -1, 0), task(1, 1, 1, 0, 1001, 0),
		task(1, 1, 1, 0, 0, -1), task(1, 1, 1, 0, 0, 9), task(1, 1, 1, 0, 0, math.MinInt),
	}
}

// P3.2
func TestCheckTask(t *testing.T) {
	for _, x := range wrongTasks() {
		expectError(t, "a wrong task", match.CheckTask(x), api.ErrRange)
		windows, err := match.Windows(pair(zeros(64, 64), line(1)), x)
		expect(t, "Windows of a wrong task", windows, err, nil, api.ErrRange)
		points, err := match.Offsets(pair(line(1), line(1)), x)
		expect(t, "Offsets of a wrong task", points, err, nil, api.ErrRange)
		_, _, points, err = match.Register(pair(line(1), line(1)), x, -1)
		expect(t, "Register by a wrong task", points, err, nil, api.ErrRange)
	}
	for _, x := range []api.MatchTask{task(1, 1, 1, 0, 0, 0), task(8, 8, 64, 4, 1000, 8), task(3, 4, 5, 1, 2, 3)} {
		expectError(t, "a task", match.CheckTask(x), api.OK)
	}
}

// P3.2
func TestWindows(t *testing.T) {
	second := line(1)
	for _, x := range []struct {
		what  string
		first api.RadarImage
		t     api.MatchTask
		want  []api.MatchWindow
		err   api.Errno
	}{
		{"two lines of three", zeros(5, 7), task(2, 3, 2, 0, 0, 0), []api.MatchWindow{
			window(0, 0, 2, 3), window(0, 2, 2, 3), window(0, 4, 2, 3), window(2, 0, 2, 3), window(2, 2, 2, 3), window(2, 4, 2, 3),
		}, api.OK},
		{"one line less than needed", zeros(3, 3), task(2, 2, 2, 0, 0, 0), []api.MatchWindow{window(0, 0, 2, 2)}, api.OK},
		{"the last line", zeros(4, 2), task(2, 2, 2, 0, 0, 0), []api.MatchWindow{window(0, 0, 2, 2), window(2, 0, 2, 2)}, api.OK},
		{"windows that overlap", zeros(1, 4), task(1, 3, 1, 0, 0, 0), []api.MatchWindow{window(0, 0, 1, 3), window(0, 1, 1, 3)}, api.OK},
		{"windows apart", zeros(1, 9), task(1, 1, 4, 0, 0, 0), []api.MatchWindow{window(0, 0, 1, 1), window(0, 4, 1, 1), window(0, 8, 1, 1)}, api.OK},
		{"a great step", zeros(20, 20), task(8, 8, 64, 0, 0, 0), []api.MatchWindow{window(0, 0, 8, 8)}, api.OK},
		{"a step that just stays inside", zeros(20, 20), task(8, 8, 13, 0, 0, 0), []api.MatchWindow{window(0, 0, 8, 8)}, api.OK},
		{"windows with too many lines", zeros(7, 64), task(8, 1, 1, 0, 0, 0), nil, api.OK},
		{"windows with too many samples", zeros(64, 7), task(1, 8, 1, 0, 0, 0), nil, api.OK},
		{"31 windows", zeros(1, 31), task(1, 1, 1, 0, 0, 0), nil, api.ErrLarge},
		{"32 windows", zeros(4, 8), task(1, 1, 1, 0, 0, 0), nil, api.ErrLarge},
		{"4096 windows", zeros(64, 64), task(1, 1, 1, 0, 0, 0), nil, api.ErrLarge},
	} {
		got, err := match.Windows(pair(x.first, second), x.t)
		expect(t, x.what, got, err, x.want, x.err)
	}
	got, err := match.Windows(pair(zeros(5, 6), second), task(1, 1, 1, 0, 0, 0))
	expect(t, "30 windows", len(got), err, 30, api.OK)
	points, err := match.Offsets(pair(zeros(1, 31), second), task(1, 1, 1, 0, 0, 0))
	expect(t, "Offsets of 31 windows", points, err, nil, api.ErrLarge)
	_, _, points, err = match.Register(pair(zeros(1, 31), second), task(1, 1, 1, 0, 0, 0), -1)
	expect(t, "Register by 31 windows", points, err, nil, api.ErrLarge)
}

// P3.2
func TestOffsets(t *testing.T) {
	first := line(1, 2, 3, 4)
	for _, x := range []struct {
		what string
		p    api.MatchPair
		t    api.MatchTask
		want []api.MatchPoint
	}{
		{"one sample later", pair(first, line(0, 1, 2, 3)), task(1, 2, 2, 1, 0, 0), []api.MatchPoint{scored(0, 1, 0, 1, 1000), scored(0, 3, 0, 0, 996)}},
		{"a least score", pair(first, line(0, 1, 2, 3)), task(1, 2, 2, 1, 997, 0), []api.MatchPoint{scored(0, 1, 0, 1, 1000)}},
		{"just the least score", pair(first, line(0, 1, 2, 3)), task(1, 2, 2, 1, 996, 0), []api.MatchPoint{scored(0, 1, 0, 1, 1000), scored(0, 3, 0, 0, 996)}},
		{"the greatest least score", pair(first, first), task(1, 3, 1, 0, 1000, 0), []api.MatchPoint{scored(0, 1, 0, 0, 1000), scored(0, 2, 0, 0, 1000)}},
		{"windows without a score", pair(line(1, 0, 1), line(1, 1, 0)), task(1, 1, 1, 0, 0, 0), []api.MatchPoint{scored(0, 0, 0, 0, 1000)}},
		{"a score of 0", pair(line(1, 0), line(0, 1)), task(1, 2, 1, 0, 0, 0), []api.MatchPoint{scored(0, 1, 0, 0, 0)}},
		{"a score below 1", pair(line(2047, 1), line(2047, 2)), task(1, 2, 1, 0, 0, 0), []api.MatchPoint{scored(0, 1, 0, 0, 999)}},
		{"a score below 1 and the least one above", pair(line(2047, 1), line(2047, 2)), task(1, 2, 1, 0, 1000, 0), nil},
		{"middles of odd windows", pair(image(3, 5, 1, 1, 1, 1, 1, 1, 1, 1, 1, 1, 1, 1, 1, 1, 1), zerosBut(3, 5, 1, 1, 1)), task(3, 5, 1, 0, 0, 0), []api.MatchPoint{scored(1, 2, 0, 0, 66)}},
		{"no windows", pair(line(1), line(1)), task(1, 2, 1, 0, 0, 0), nil},
		{"no offsets", pair(zerosBut(1, 6, 0, 5, 1), line(1)), task(1, 1, 5, 4, 0, 0), nil},
	} {
		got, err := match.Offsets(x.p, x.t)
		expect(t, x.what, got, err, x.want, api.OK)
	}
}

// P3.2: against the definition.
func TestOffsetsByDefinition(t *testing.T) {
	numbers := source(4)
	for _, size := range []int{1, 5, api.MaxSample} {
		for range 12 {
			p := pair(numbers.image(numbers.from(8, 20), 17, size), numbers.image(16, numbers.from(8, 20), size))
			task := task(numbers.from(1, 8), numbers.from(1, 8), numbers.from(5, 7), numbers.below(5), numbers.below(400), 0)
			var want []api.MatchPoint
			for l := 0; l+task.Lines <= p.First.Lines; l += task.Step {
				for s := 0; s+task.Samples <= p.First.Samples; s += task.Step {
					by, score := bestOf(p, window(l, s, task.Lines, task.Samples), task.Reach)
					if score == nil || score.Cmp(fractionOf(task.Least, 1000)) < 0 {
						continue
					}
					score.Mul(score, big.NewRat(1000, 1))
					want = append(want, scored(l+task.Lines/2, s+task.Samples/2, by[0], by[1], down(score)))
				}
			}
			got, err := match.Offsets(p, task)
			expect(t, "Offsets", got, err, want, api.OK)
		}
	}
}
