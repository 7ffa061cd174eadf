package echo_test

import (
	"testing"

	"swath/api"
	"swath/echo"
)

// P1.1
func TestCheckImage(t *testing.T) {
	for _, x := range imageFaults() {
		at, err := echo.CheckImage(x.im)
		expect(t, x.what, at, err, x.at, x.err)
	}
	full := image(api.MaxLines, api.MaxSamples, make([]complex64, api.MaxLines*api.MaxSamples)...)
	for _, im := range []api.RadarImage{full, image(1, 1, 0), image(2, 1, 2047-2047i, -2047+2047i), image(1, 1, narrowSample(minusZero, 1))} {
		at, err := echo.CheckImage(im)
		expect(t, "an image", at, err, 0, api.OK)
	}
	full.Data[4095] = 2048
	at, err := echo.CheckImage(full)
	expect(t, "the last sample", at, err, 4095, api.ErrRange)
}

// P1.1
func TestCheckField(t *testing.T) {
	for _, x := range fieldFaults() {
		at, err := echo.CheckField(x.f)
		expect(t, x.what, at, err, x.at, x.err)
	}
	for _, f := range []api.RadarField{field(1, 1, 0), field(1, 2, 1e9-1e9i, -1e9+1e9i), field(64, 64, make([]complex128, 4096)...)} {
		at, err := echo.CheckField(f)
		expect(t, "a field", at, err, 0, api.OK)
	}
}

// P1.1
func TestCheckCode(t *testing.T) {
	for _, x := range codeFaults() {
		at, err := echo.CheckCode(x.code)
		expect(t, x.what, at, err, x.at, x.err)
	}
	longest := make([]complex64, api.MaxCodes)
	longest[31] = 1i
	for _, code := range [][]complex64{longest, {3 - 3i, -3 + 3i}, {0, 1}} {
		at, err := echo.CheckCode(code)
		expect(t, "a code", at, err, 0, api.OK)
	}
}

// P1.1 to P1.8: the errors of images, fields and codes come before those of the functions, and nothing stands beside them.
func TestErrorsOfArguments(t *testing.T) {
	good := image(1, 1, 1)
	for _, x := range imageFaults() {
		for name, err := range imageErrors(t, x.im, good) {
			if err != x.err {
				t.Errorf("%s of an image with %s: error %d, want %d", name, x.what, err, x.err)
			}
		}
	}
	for _, x := range fieldFaults() {
		for name, err := range fieldErrors(t, x.f) {
			if err != x.err {
				t.Errorf("%s of a field with %s: error %d, want %d", name, x.what, err, x.err)
			}
		}
	}
	for _, x := range codeFaults() {
		f, err := echo.Compress(good, x.code)
		expect(t, "Compress by a code with "+x.what, f, err, api.RadarField{}, x.err)
		f, err = echo.Focus(field(1, 1, 1e9), x.code)
		expect(t, "Focus by a code with "+x.what, f, err, api.RadarField{}, x.err)
	}
}

// imageErrors hands a wrong image to each function, with further arguments that are wrong too.
func imageErrors(t *testing.T, wrong, good api.RadarImage) map[string]api.Errno {
	t.Helper()
	errs := map[string]api.Errno{}
	note := func(name string, isZero bool, err api.Errno) {
		errs[name] = err
		if !isZero {
			t.Errorf("%s: a result beside an error", name)
		}
	}
	f, err := echo.Compress(wrong, nil)
	note("Compress", f.Data == nil && f.Lines == 0 && f.Samples == 0, err)
	z, err := echo.PairSum(wrong)
	note("PairSum", z == 0, err)
	n, err := echo.DopplerPhase(wrong)
	note("DopplerPhase", n == 0, err)
	im, err := echo.Added(wrong, api.RadarImage{})
	note("Added, first", isZeroImage(im), err)
	im, err = echo.Added(good, wrong)
	note("Added, second", isZeroImage(im), err)
	im, err = echo.Shifted(wrong, [2]int{65, 65})
	note("Shifted", isZeroImage(im), err)
	gaps, err := echo.Gaps(wrong)
	note("Gaps", gaps == nil, err)
	n, err = echo.Clipped(wrong)
	note("Clipped", n == 0, err)
	s, err := echo.Print(wrong)
	note("Print", s == "", err)
	return errs
}

func fieldErrors(t *testing.T, wrong api.RadarField) map[string]api.Errno {
	t.Helper()
	errs := map[string]api.Errno{}
	f, err := echo.Focus(wrong, nil)
	if errs["Focus"] = err; f.Data != nil || f.Lines != 0 || f.Samples != 0 {
		t.Errorf("Focus: a result beside an error")
	}
	n, err := echo.EnergyAt(wrong, -1, -1)
	if errs["EnergyAt"] = err; n != 0 {
		t.Errorf("EnergyAt: a result beside an error")
	}
	at, n, err := echo.Peak(wrong)
	if errs["Peak"] = err; at != [2]int{} || n != 0 {
		t.Errorf("Peak: a result beside an error")
	}
	p, err := echo.Response(wrong, -1)
	if errs["Response"] = err; p != (api.EchoPoint{}) {
		t.Errorf("Response: a result beside an error")
	}
	return errs
}

func isZeroImage(im api.RadarImage) bool {
	return im.Lines == 0 && im.Samples == 0 && im.Data == nil
}
