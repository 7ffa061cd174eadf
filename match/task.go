package match

import "swath/api"

// CheckTask tells whether a task has its form.
func CheckTask(t api.MatchTask) api.Errno {
	right := isSide(t.Lines) && isSide(t.Samples) && within(t.Step, 1, api.MaxLines) &&
		isReach(t.Reach) && within(t.Least, 0, fullScore) && isTolerance(t.Tolerance)
	return errorIf(!right, api.ErrRange)
}

// Windows gives the windows of a task, line by line.
func Windows(p api.MatchPair, t api.MatchTask) ([]api.MatchWindow, api.Errno) {
	if err := firstError(checkPair(p), CheckTask(t)); err != api.OK {
		return nil, err
	}
	var windows []api.MatchWindow
	for line := 0; line <= p.First.Lines-t.Lines; line += t.Step {
		for sample := 0; sample <= p.First.Samples-t.Samples; sample += t.Step {
			windows = append(windows, api.MatchWindow{Line: line, Sample: sample, Lines: t.Lines, Samples: t.Samples})
		}
	}
	if len(windows) > api.MaxMatchPoints {
		return nil, api.ErrLarge
	}
	return windows, api.OK
}

// Offsets gives the points of a task: the windows that agree well enough somewhere.
func Offsets(p api.MatchPair, t api.MatchTask) ([]api.MatchPoint, api.Errno) {
	windows, err := Windows(p, t)
	if err != api.OK {
		return nil, err
	}
	var points []api.MatchPoint
	for _, w := range windows {
		best, err := bestOffset(p, w, t.Reach)
		if err != api.OK || best.score.thousandths() < t.Least {
			continue
		}
		points = append(points, pointOf(w, best))
	}
	return points, api.OK
}

// pointOf stands at the middle of the window.
func pointOf(w api.MatchWindow, best found) api.MatchPoint {
	return api.MatchPoint{
		Line:   w.Line + w.Lines/2,
		Sample: w.Sample + w.Samples/2,
		By:     best.by,
		Score:  best.score.thousandths(),
	}
}
