package series_test

import (
	"math"
	"math/big"
	"reflect"
	"slices"
	"strings"
	"testing"

	"swath/api"
)

// expect compares a value with its error code; a nil slice and an empty one are the same.
func expect[T any](t *testing.T, what string, got T, err api.Errno, want T, wantErr api.Errno) {
	t.Helper()
	g, w := reflect.ValueOf(&got).Elem(), reflect.ValueOf(&want).Elem()
	empty := g.Kind() == reflect.Slice && g.Len() == 0 && w.Len() == 0
	if !empty && !reflect.DeepEqual(got, want) || err != wantErr {
		t.Errorf("%s: %v, error %d; want %v, error %d", what, got, err, want, wantErr)
	}
}

func expectError(t *testing.T, what string, err, want api.Errno) {
	t.Helper()
	if err != want {
		t.Errorf("%s: error %d, want %d", what, err, want)
	}
}

func epoch(day, base, phase, margin int) api.SeriesEpoch {
	return api.SeriesEpoch{Day: day, Base: base, Phase: phase, Margin: margin}
}

func seriesOf(epochs ...api.SeriesEpoch) api.SeriesPoint {
	return api.SeriesPoint{Name: "p", Epochs: epochs}
}

func named(name string, epochs ...api.SeriesEpoch) api.SeriesPoint {
	return api.SeriesPoint{Name: name, Epochs: epochs}
}

// example is the series of the chapter's examples with some bases and phases.
func example(bases, phases [3]int) api.SeriesPoint {
	return seriesOf(epoch(0, bases[0], phases[0], 0), epoch(10, bases[1], phases[1], 0), epoch(20, bases[2], phases[2], 0))
}

func firstExample() api.SeriesPoint { return example([3]int{0, 10, 0}, [3]int{0, 30, 40}) }

// dates gives so many dates without anything else.
func dates(count int) []api.SeriesEpoch {
	var epochs []api.SeriesEpoch
	for day := range count {
		epochs = append(epochs, epoch(day, 0, 0, 0))
	}
	return epochs
}

// greatSeries are series of 20 dates whose numbers are as great as they may be.
func greatSeries() []api.SeriesPoint {
	var l []api.SeriesPoint
	for kind := range 64 {
		has := func(bit int) bool { return kind>>bit%2 == 1 }
		var epochs []api.SeriesEpoch
		for i := range 20 {
			day, base, phase := i, 100, 16000
			if i > 0 && (has(0) || i >= 10) {
				day = 381 + i
			}
			if has(1) && i%2 == 0 || has(2) && i%10 < 5 || i == 13 {
				base = -100
			}
			if has(3) && base < 0 || has(4) && day < 200 || has(5) && i == 7 {
				phase = -16000
			}
			epochs = append(epochs, epoch(99600+day, base, phase, 2048))
		}
		l = append(l, seriesOf(epochs...))
	}
	return l
}

func withMargin(s api.SeriesPoint, margin int) api.SeriesPoint {
	s = copyOf(s)
	for i := range s.Epochs {
		s.Epochs[i].Margin = margin
	}
	return s
}

func copyOf(s api.SeriesPoint) api.SeriesPoint {
	return named(s.Name, slices.Clone(s.Epochs)...)
}

// seriesFault is a series with the error that CheckSeries finds first.
type seriesFault struct {
	what string
	s    api.SeriesPoint
	err  api.Errno
}

func seriesFaults() []seriesFault {
	full := dates(20)
	faults := []seriesFault{
		{"no dates", seriesOf(), api.ErrShape},
		{"21 dates", seriesOf(dates(21)...), api.ErrLarge},
		{"21 dates, the first one of which is wrong", seriesOf(append([]api.SeriesEpoch{epoch(-1, 0, 0, 0)}, full...)...), api.ErrLarge},
		{"a day below 0", seriesOf(epoch(-1, 0, 0, 0)), api.ErrRange},
		{"a day that is too late", seriesOf(epoch(100001, 0, 0, 0)), api.ErrRange},
		{"a base that is too great", seriesOf(epoch(0, 101, 0, 0)), api.ErrRange},
		{"a base that is too small", seriesOf(epoch(0, -101, 0, 0)), api.ErrRange},
		{"a phase that is too great", seriesOf(epoch(0, 0, 16001, 0)), api.ErrRange},
		{"a phase that is too small", seriesOf(epoch(0, 0, -16001, 0)), api.ErrRange},
		{"a margin below 0", seriesOf(epoch(0, 0, 0, -1)), api.ErrRange},
		{"a margin that is too great", seriesOf(epoch(0, 0, 0, 2049)), api.ErrRange},
		{"the last date of many", seriesOf(append(slices.Clone(full[:19]), epoch(30, 0, 16001, 0))...), api.ErrRange},
		{"the same day", seriesOf(epoch(5, 0, 0, 0), epoch(5, 1, 1, 1)), api.ErrOrder},
		{"an earlier day", seriesOf(epoch(5, 0, 0, 0), epoch(4, 0, 0, 0)), api.ErrOrder},
		{"a day that is earlier than the one before only", seriesOf(epoch(5, 0, 0, 0), epoch(9, 0, 0, 0), epoch(8, 0, 0, 0)), api.ErrOrder},
		{"401 days", seriesOf(epoch(7, 0, 0, 0), epoch(408, 0, 0, 0)), api.ErrLarge},
		{"401 days with a date between", seriesOf(epoch(0, 0, 0, 0), epoch(300, 0, 0, 0), epoch(401, 0, 0, 0)), api.ErrLarge},
		{"an earlier day with a wrong margin", seriesOf(epoch(5, 0, 0, 0), epoch(4, 0, 0, -1)), api.ErrRange},
		{"401 days with a wrong base", seriesOf(epoch(0, 0, 0, 0), epoch(401, -101, 0, 0)), api.ErrRange},
		{"an earlier day that is 401 days behind the first one", seriesOf(epoch(0, 0, 0, 0), epoch(500, 0, 0, 0), epoch(450, 0, 0, 0)), api.ErrLarge},
		{"401 days ahead of a wrong phase", seriesOf(epoch(0, 0, 0, 0), epoch(401, 0, 0, 0), epoch(402, 0, 16001, 0)), api.ErrLarge},
		{"an earlier day ahead of 401 days", seriesOf(epoch(9, 0, 0, 0), epoch(8, 0, 0, 0), epoch(800, 0, 0, 0)), api.ErrOrder},
		{"a wrong phase ahead of an earlier day", seriesOf(epoch(9, 0, 16001, 0), epoch(8, 0, 0, 0)), api.ErrRange},
		{"numbers without end", seriesOf(epoch(0, 0, 0, 0), epoch(math.MaxInt, math.MinInt, math.MinInt, math.MaxInt)), api.ErrRange},
		{"a base without end", seriesOf(epoch(0, math.MinInt, 0, 0)), api.ErrRange},
		{"a phase without end", seriesOf(epoch(0, 0, math.MinInt, 0)), api.ErrRange},
		{"a wrong name without dates", named("1"), api.ErrName},
		{"a wrong name with 21 dates", named("1", dates(21)...), api.ErrName},
		{"a wrong name with a wrong date", named("", epoch(-1, 0, 0, 0)), api.ErrName},
	}
	for _, name := range []string{"", "1a", "-a", "a_", "a b", "a.", "a\n", "\u00e4", "a\u00e4", "abcdefghijklm", "a@", "a[", "a`", "a{", "a/", "a:", "@", "[", "`", "{", "\x00", strings.Repeat("a", 70000)} {
		faults = append(faults, seriesFault{"the name " + name, named(name, dates(1)...), api.ErrName})
	}
	return faults
}

func fraction(num, den int) api.Frac { return api.Frac{Num: num, Den: den} }

func whole(n int) api.Frac { return fraction(n, 1) }

func span(lo, hi int) api.Range { return api.Range{Lo: lo, Hi: hi} }

// source gives the same numbers in each run.
type source int

func (s *source) below(n int) int {
	*s = (*s*1103515245 + 12345) % 2147483648
	return int(*s) / 8 % n
}

func (s *source) from(lo, hi int) int { return lo + s.below(hi-lo+1) }

// days gives so many ascending days, the last one at most MaxSpan behind the first one.
func (s *source) days(count, most int) []int {
	days := []int{}
	for len(days) < count {
		if day := s.from(0, most); !slices.Contains(days, day) {
			days = append(days, day)
		}
	}
	slices.Sort(days)
	first := s.from(0, api.MaxDay-most)
	for i := range days {
		days[i] += first
	}
	return days
}

func (s *source) series(count, most, base, phase int) api.SeriesPoint {
	x := named([]string{"p", "Abc-9", "z--Z00000000"}[s.below(3)])
	for _, day := range s.days(count, most) {
		x.Epochs = append(x.Epochs, epoch(day, s.from(-base, base), s.from(-phase, phase), s.from(0, 2048)))
	}
	return x
}

// randomSeries are series of all sizes, many of them of a lesser rank.
func randomSeries(seed int) []api.SeriesPoint {
	numbers := source(seed)
	l := greatSeries()
	for i := range 400 {
		count := numbers.from(1, 4+16*(i%2))
		base, phase := []int{0, 1, 3, 100}[i/2%4], []int{2, 50, 16000}[i/8%3]
		l = append(l, numbers.series(count, []int{20, 400}[i/24%2], base, phase))
	}
	return l
}

// rows are the factors of the model, date by date, and phases the phases: both as fractions of any size.
func rows(s api.SeriesPoint) [][]*big.Rat {
	var l [][]*big.Rat
	for _, x := range s.Epochs {
		l = append(l, numbersOf(x.Day-s.Epochs[0].Day, x.Base, 1))
	}
	return l
}

func phases(s api.SeriesPoint) []*big.Rat {
	var l []*big.Rat
	for _, x := range s.Epochs {
		l = append(l, numbersOf(x.Phase)...)
	}
	return l
}

func numbersOf(l ...int) []*big.Rat {
	var numbers []*big.Rat
	for _, n := range l {
		numbers = append(numbers, big.NewRat(int64(n), 1))
	}
	return numbers
}

func dot(a, b []*big.Rat) *big.Rat {
	sum := new(big.Rat)
	for i := range a {
		sum.Add(sum, new(big.Rat).Mul(a[i], b[i]))
	}
	return sum
}

// echelon eliminates column by column, and gives the rows with the columns in which they begin.
func echelon(rows [][]*big.Rat, columns int) ([][]*big.Rat, []int) {
	var l [][]*big.Rat
	for _, r := range rows {
		l = append(l, slices.Clone(r))
	}
	var begins []int
	for column := range columns {
		top := len(begins)
		found := slices.IndexFunc(l[top:], func(r []*big.Rat) bool { return r[column].Sign() != 0 })
		if found < 0 {
			continue
		}
		l[top], l[top+found] = l[top+found], l[top]
		l[top] = times(l[top], new(big.Rat).Inv(l[top][column]))
		for i := range l {
			if i != top {
				l[i] = plus(l[i], times(l[top], new(big.Rat).Neg(l[i][column])))
			}
		}
		begins = append(begins, column)
	}
	return l[:len(begins)], begins
}

func times(r []*big.Rat, factor *big.Rat) []*big.Rat {
	var l []*big.Rat
	for _, n := range r {
		l = append(l, new(big.Rat).Mul(n, factor))
	}
	return l
}

func plus(a, b []*big.Rat) []*big.Rat {
	var l []*big.Rat
	for i := range a {
		l = append(l, new(big.Rat).Add(a[i], b[i]))
	}
	return l
}

func rankOf(rows [][]*big.Rat) int {
	_, begins := echelon(rows, len(rows[0]))
	return len(begins)
}

// leastSquares gives the only fit of rows and phases, or tells that there are several: by elimination.
func leastSquares(rows [][]*big.Rat, phases []*big.Rat) ([]*big.Rat, bool) {
	var sums [][]*big.Rat
	for p := range rows[0] {
		var r []*big.Rat
		for q := range rows[0] {
			r = append(r, dot(column(rows, p), column(rows, q)))
		}
		sums = append(sums, append(r, dot(column(rows, p), phases)))
	}
	l, begins := echelon(sums, len(rows[0]))
	if len(begins) < len(rows[0]) {
		return nil, false
	}
	return column(l, len(rows[0])), true
}

func column(rows [][]*big.Rat, number int) []*big.Rat {
	var l []*big.Rat
	for _, r := range rows {
		l = append(l, r[number])
	}
	return l
}

// only gives some columns of rows.
func only(rows [][]*big.Rat, columns ...int) [][]*big.Rat {
	l := make([][]*big.Rat, len(rows))
	for _, number := range columns {
		for i, n := range column(rows, number) {
			l[i] = append(l[i], n)
		}
	}
	return l
}

// missed gives the phases less the model.
func missed(rows [][]*big.Rat, phases, parameters []*big.Rat) []*big.Rat {
	var l []*big.Rat
	for i, r := range rows {
		l = append(l, new(big.Rat).Sub(phases[i], dot(r, parameters)))
	}
	return l
}

// small gives fractions if all of them are small, and otherwise ErrLarge.
func small(l []*big.Rat) ([]api.Frac, api.Errno) {
	var fractions []api.Frac
	most := big.NewInt(1000000000)
	for _, x := range l {
		if x.Num().CmpAbs(most) > 0 || x.Denom().Cmp(most) > 0 {
			return nil, api.ErrLarge
		}
		fractions = append(fractions, fraction(int(x.Num().Int64()), int(x.Denom().Int64())))
	}
	return fractions, api.OK
}

func rat(x api.Frac) *big.Rat { return big.NewRat(int64(x.Num), int64(x.Den)) }

// down rounds down, up rounds up.
func down(x *big.Rat) int {
	quotient := new(big.Int)
	quotient.DivMod(x.Num(), x.Denom(), new(big.Int))
	return int(quotient.Int64())
}

func up(x *big.Rat) int { return -down(new(big.Rat).Neg(x)) }

func scaled(x *big.Rat, factor int) *big.Rat {
	return new(big.Rat).Mul(x, big.NewRat(int64(factor), 1))
}

func sizeOf(n int) int { return max(n, -n) }

// padded gives fractions with noughts behind them if there are none.
func padded(l []api.Frac, count int) []api.Frac {
	if l == nil {
		return make([]api.Frac, count)
	}
	return l
}
