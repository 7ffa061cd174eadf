package echo_test

import (
	"math"
	"testing"

	"swath/api"
	"swath/echo"
)

// folded continues a number over many results, for comparison with that of another program.
func folded(sum, next int) int { return (31*sum + next) % 998244353 }

// wrapped gives the phase from -2048 to 2047 that differs by whole turns.
func wrapped(phase int) int { return ((phase+2048)%4096+4096)%4096 - 2048 }

// P1.4
func TestDirection(t *testing.T) {
	for m, want := range map[int][2]int{
		0: {16777216, 0}, 1: {16777211, 12867}, 2: {16777196, 25735}, 256: {16454846, 3273072},
		341: {16206656, 4338118}, 512: {15500126, 6420362}, 513: {15495198, 6432248},
		768: {13949745, 9320921}, 1023: {11872378, 11854180}, 1024: {11863283, 11863283},
	} {
		got, err := echo.Direction(m)
		expect(t, "Direction", got, err, want, api.OK)
	}
	sum := 0
	for m := range 1025 {
		d, err := echo.Direction(m)
		angle := math.Atan2(float64(d[1]), float64(d[0])) / (2 * math.Pi) * 8192
		if err != api.OK || math.Abs(angle-float64(m)) > 0.001 {
			t.Errorf("Direction of %d: %v, at %f halves of a part, error %d", m, d, angle, err)
		}
		sum = folded(folded(sum, d[0]), d[1])
	}
	if sum != 448886844 {
		t.Errorf("all directions: %d", sum)
	}
	for _, m := range []int{-1, 1025, math.MinInt, math.MaxInt} {
		got, err := echo.Direction(m)
		expect(t, "Direction beyond", got, err, [2]int{}, api.ErrRange)
	}
}

// P1.4
func TestPhaseOf(t *testing.T) {
	for z, want := range map[complex128]int{
		1: 0, 1 + 1i: 512, 1i: 1024, -1 + 1i: 1536, -1: -2048, -1 - 1i: -1536, -1i: -1024, 1 - 1i: -512,
		2 + 1i: 302, 2 - 1i: -302, -2 + 1i: 1746, 1 + 2i: 722, -3 - 3i: -1536, -3 + 4i: 1443, 7 - 24i: -839,
		1000 + 1i: 1, 1e11: 0, -1e11i: -1024, 1e11 - 1e11i: -512, 1e11 + 1i: 0, -1e11 + 1i: -2048, -1e11 - 1i: -2048,
		1 + 1e11i: 1024, 1e11 + 99999999999i: 512,
	} {
		got, err := echo.PhaseOf(z)
		expect(t, "PhaseOf", got, err, want, api.OK)
	}
	for _, x := range []struct {
		z    complex128
		want int
	}{{complex(1, minusZero), 0}, {complex(-1, minusZero), -2048}, {complex(minusZero, -1), -1024}, {complex(minusZero, 1), 1024}} {
		got, err := echo.PhaseOf(x.z)
		expect(t, "PhaseOf beside -0", got, err, x.want, api.OK)
	}
}

// P1.4: a direction is not beyond its own multiples, but beyond what lies a little below.
func TestPhaseAtDirections(t *testing.T) {
	for m := 1; m < 1024; m++ {
		d, _ := echo.Direction(m)
		x, y := float64(d[0]), float64(d[1])
		at, err := echo.PhaseOf(complex(x, y))
		expect(t, "PhaseOf at a direction", at, err, (m+1)/2, api.OK)
		at, err = echo.PhaseOf(complex(5000*x, 5000*y))
		expect(t, "PhaseOf at its multiple", at, err, (m+1)/2, api.OK)
		at, err = echo.PhaseOf(complex(5000*x+1, 5000*y))
		expect(t, "PhaseOf below it", at, err, m/2, api.OK)
	}
}

// P1.4: against the results of another program.
func TestPhasesOfMany(t *testing.T) {
	sum := 0
	for x := -60; x <= 60; x++ {
		for y := -60; y <= 60; y++ {
			if x != 0 || y != 0 {
				phase, _ := echo.PhaseOf(complex(float64(x), float64(y)))
				sum = folded(sum, phase+2048)
			}
		}
	}
	if sum != 215008658 {
		t.Errorf("phases of small numbers: %d", sum)
	}
	sum = 0
	state := 1
	next := func() float64 {
		state = (state*1103515245 + 12345) % 2147483648
		return float64(state*93%200000000001 - 100000000000)
	}
	for range 20000 {
		x, y := next(), next()
		phase, err := echo.PhaseOf(complex(x, y))
		near := math.Atan2(y, x) / (2 * math.Pi) * 4096
		off := math.Mod(math.Abs(float64(phase)-near), 4096)
		if err != api.OK || off > 0.51 && off < 4095.49 {
			t.Errorf("phase of %.0f and %.0f: %d, error %d", x, y, phase, err)
		}
		sum = folded(sum, phase+2048)
	}
	if sum != 345254479 {
		t.Errorf("phases of great numbers: %d", sum)
	}
}

// P1.4
func TestErrorsOfPhases(t *testing.T) {
	for _, x := range []struct {
		z   complex128
		err api.Errno
	}{
		{0, api.ErrVoid}, {complex(minusZero, minusZero), api.ErrVoid},
		{0.5, api.ErrWhole}, {1 + 0.5i, api.ErrWhole}, {complex(notNumber, 0), api.ErrWhole},
		{complex(infinity, 0), api.ErrWhole}, {complex(0, -infinity), api.ErrWhole}, {2e11 + 0.5i, api.ErrWhole},
		{1e11 + 1, api.ErrRange}, {-1e11i - 1i, api.ErrRange}, {1e30, api.ErrRange}, {2e11, api.ErrRange},
	} {
		got, err := echo.PhaseOf(x.z)
		expect(t, "PhaseOf", got, err, 0, x.err)
	}
}

// P1.6
func TestPairSum(t *testing.T) {
	for _, x := range []struct {
		what  string
		im    api.RadarImage
		sum   complex128
		phase int
	}{
		{"the example", image(2, 2, 1, 2, 1i, 2i), 5i, 1024},
		{"three lines", image(3, 1, 1, 2, 3i), 2 + 6i, 814},
		{"lines that differ", image(2, 2, 1+1i, 3, 2, 1-1i), 5 - 5i, -512},
	} {
		sum, err := echo.PairSum(x.im)
		expect(t, "PairSum of "+x.what, sum, err, x.sum, api.OK)
		phase, err := echo.DopplerPhase(x.im)
		expect(t, "DopplerPhase of "+x.what, phase, err, x.phase, api.OK)
	}
	sum, err := echo.PairSum(image(1, 2, 1, 2))
	expect(t, "PairSum of one line", sum, err, 0, api.ErrShape)
	phase, err := echo.DopplerPhase(image(1, 2, 1, 2))
	expect(t, "DopplerPhase of one line", phase, err, 0, api.ErrShape)
	cancels := image(2, 2, 1, 1, 1, -1)
	sum, err = echo.PairSum(cancels)
	expect(t, "PairSum of 1 and -1", sum, err, 0, api.OK)
	phase, err = echo.DopplerPhase(cancels)
	expect(t, "DopplerPhase of 1 and -1", phase, err, 0, api.ErrVoid)
	zeros := image(2, 1, narrowSample(minusZero, minusZero), narrowSample(minusZero, minusZero))
	sum, err = echo.PairSum(zeros)
	expect(t, "PairSum of zeros", sum, err, 0, api.OK)
	expectNoMinusZero(t, "PairSum", []complex128{sum})
}

// P1.6: the greatest sum of all is exact, and has a phase.
func TestGreatestPairSum(t *testing.T) {
	im := image(64, 64)
	for range 4096 {
		im.Data = append(im.Data, 2047-2047i)
	}
	sum, err := echo.PairSum(im)
	expect(t, "PairSum", sum, err, 63*64*2*2047*2047, api.OK)
	phase, err := echo.DopplerPhase(im)
	expect(t, "DopplerPhase", phase, err, 0, api.OK)
}

// P1.6
func TestUnfolded(t *testing.T) {
	for _, x := range [][3]int{
		{1024, 5000, 5120}, {-2048, 0, -2048}, {2048, 0, -2048}, {0, -4096, -4096}, {100, 100, 100},
		{2047, 0, 2047}, {2049, 0, -2047}, {0, 2048, 0}, {0, 2049, 4096}, {0, -2048, -4096}, {0, -2047, 0},
		{100000000, -100000000, -99999488}, {-100000000, 100000000, 99999488}, {5, 100000000, 99999749},
	} {
		got, err := echo.Unfolded(x[0], x[1])
		expect(t, "Unfolded", got, err, x[2], api.OK)
	}
	for _, x := range [][2]int{{100000001, 0}, {-100000001, 0}, {0, 100000001}, {0, -100000001}, {math.MinInt, math.MaxInt}, {0, math.MinInt}} {
		got, err := echo.Unfolded(x[0], x[1])
		expect(t, "Unfolded of great numbers", got, err, 0, api.ErrRange)
	}
}

// P1.6: nearest, by whole turns, the lesser one of two.
func TestUnfoldedByDefinition(t *testing.T) {
	for phase := -9000; phase <= 9000; phase += 37 {
		for near := -9000; near <= 9000; near += 41 {
			got, err := echo.Unfolded(phase, near)
			if err != api.OK || (got-phase)%4096 != 0 || got-near < -2048 || got-near >= 2048 {
				t.Fatalf("Unfolded of %d near %d: %d, error %d", phase, near, got, err)
			}
		}
	}
}

// P1.11
func TestPhasesOfRelatedNumbers(t *testing.T) {
	numbers := source(10)
	for range 5000 {
		z := complex(numbers.part(100000000), numbers.part(3000000))
		phase, err := echo.PhaseOf(z)
		if err != api.OK {
			t.Fatalf("PhaseOf %v: error %d", z, err)
		}
		conjugate, _ := echo.PhaseOf(complex(real(z), -imag(z)))
		if conjugate != wrapped(-phase) {
			t.Errorf("phase of the conjugate of %v: %d, of itself %d", z, conjugate, phase)
		}
		turned, _ := echo.PhaseOf(complex(-imag(z), real(z)))
		if turned != wrapped(phase+1024) {
			t.Errorf("phase of i times %v: %d, of itself %d", z, turned, phase)
		}
		double, _ := echo.PhaseOf(2 * z)
		if double != phase {
			t.Errorf("phase of the double of %v: %d, of itself %d", z, double, phase)
		}
	}
}

// P1.11
func TestDopplerOfLinesThatTurn(t *testing.T) {
	numbers := source(11)
	for turn, want := range map[complex64]int{1i: 1024, -1: -2048, -1i: -1024, 1: 0} {
		im := numbers.image(5, 9, 2047)
		for i := 9; i < 45; i++ {
			im.Data[i] = im.Data[i-9] * turn
		}
		got, err := echo.DopplerPhase(im)
		expect(t, "DopplerPhase", got, err, want, api.OK)
	}
}
