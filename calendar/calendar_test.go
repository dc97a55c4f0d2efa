package calendar

import (
	"math"
	"slices"
	"strings"
	"testing"
	"time"

	"treaty/api"
)

// end is the end of the calendar: the hour after the last one.
const end = api.MaxHour + 1

// moment returns the hour as package time counts it.
func moment(hour int) time.Time {
	return time.Date(2000, time.January, 1, hour, 0, 0, 0, time.UTC)
}

// at returns the hour that the text s stands for.
func at(t *testing.T, s string) int {
	t.Helper()
	hour, e := Parse(s)
	if e != api.OK {
		t.Fatalf("Parse(%q) = %d, %d", s, hour, e)
	}
	return hour
}

func TestCivilOfEveryHour(t *testing.T) { // P3.1
	for hour := range end {
		m := moment(hour)
		want := api.Date{Year: m.Year(), Month: int(m.Month()), Day: m.Day()}
		d, h, e := Civil(hour)
		if d != want || h != m.Hour() || e != api.OK {
			t.Fatalf("Civil(%d) = %v, %d, %d, want %v, %d", hour, d, h, e, want, m.Hour())
		}
		if back, e := Hour(d, h); back != hour || e != api.OK {
			t.Fatalf("Hour(%v, %d) = %d, %d, want %d", d, h, back, e, hour)
		}
	}
}

func TestCivilErrors(t *testing.T) { // P3.1
	for _, hour := range []int{-1, -24, end, end + 23, math.MinInt, math.MaxInt} {
		if d, h, e := Civil(hour); d != (api.Date{}) || h != 0 || e != api.ErrRange {
			t.Errorf("Civil(%d) = %v, %d, %d", hour, d, h, e)
		}
	}
}

func TestHour(t *testing.T) { // P3.1
	for _, x := range []struct {
		d       api.Date
		h, want int
	}{
		{api.Date{Year: 2000, Month: 1, Day: 1}, 0, 0},
		{api.Date{Year: 2000, Month: 1, Day: 1}, 23, 23},
		{api.Date{Year: 2000, Month: 1, Day: 2}, 0, 24},
		{api.Date{Year: 2000, Month: 2, Day: 29}, 5, 1421},
		{api.Date{Year: 2000, Month: 3, Day: 1}, 0, 60 * 24},
		{api.Date{Year: 2000, Month: 12, Day: 31}, 23, 366*24 - 1},
		{api.Date{Year: 2001, Month: 1, Day: 1}, 0, 366 * 24},
		{api.Date{Year: 2099, Month: 12, Day: 31}, 23, api.MaxHour},
	} {
		if hour, e := Hour(x.d, x.h); hour != x.want || e != api.OK {
			t.Errorf("Hour(%v, %d) = %d, %d, want %d", x.d, x.h, hour, e, x.want)
		}
	}
}

// TestHourOfDays counts every day that there may be, and those around them, against package time, which turns a day that does not exist into another one.
func TestHourOfDays(t *testing.T) { // P3.1
	for year := 1996; year <= 2104; year++ {
		for month := -1; month <= 14; month++ {
			for day := -1; day <= 33; day++ {
				m := time.Date(year, time.Month(month), day, 7, 0, 0, 0, time.UTC)
				want, wantE := int(m.Sub(moment(0)).Hours()), api.OK
				if m.Year() != year || int(m.Month()) != month || m.Day() != day || year < 2000 || year > 2099 {
					want, wantE = 0, api.ErrRange
				}
				d := api.Date{Year: year, Month: month, Day: day}
				if hour, e := Hour(d, 7); hour != want || e != wantE {
					t.Fatalf("Hour(%v, 7) = %d, %d, want %d, %d", d, hour, e, want, wantE)
				}
			}
		}
	}
}

func TestHourErrors(t *testing.T) { // P3.1
	good := api.Date{Year: 2050, Month: 6, Day: 15}
	for _, x := range []struct {
		d api.Date
		h int
	}{
		{good, -1}, {good, 24}, {good, math.MinInt}, {good, math.MaxInt},
		{api.Date{}, 0},
		{api.Date{Year: 1999, Month: 12, Day: 31}, 23},
		{api.Date{Year: 2100, Month: 1, Day: 1}, 0},
		{api.Date{Year: 2100, Month: 2, Day: 29}, 0},
		{api.Date{Year: 2001, Month: 2, Day: 29}, 0},
		{api.Date{Year: 2000, Month: 2, Day: 30}, 0},
		{api.Date{Year: 2050, Month: 4, Day: 31}, 0},
		{api.Date{Year: 2050, Month: 12, Day: 32}, 0},
		{api.Date{Year: math.MinInt, Month: 1, Day: 1}, 0},
		{api.Date{Year: math.MaxInt, Month: 1, Day: 1}, 0},
		{api.Date{Year: 2050, Month: math.MinInt, Day: 1}, 0},
		{api.Date{Year: 2050, Month: math.MaxInt, Day: 1}, 0},
		{api.Date{Year: 2050, Month: 1, Day: math.MinInt}, 0},
		{api.Date{Year: 2050, Month: 1, Day: math.MaxInt}, 0},
		{api.Date{Year: 2050, Month: 0, Day: 0}, 24},
	} {
		if hour, e := Hour(x.d, x.h); hour != 0 || e != api.ErrRange {
			t.Errorf("Hour(%v, %d) = %d, %d", x.d, x.h, hour, e)
		}
	}
}

func TestTextOfEveryHour(t *testing.T) { // P3.2, P3.7
	for hour := range end {
		m := moment(hour)
		full := m.Format("2006-01-02T15")
		want := full
		if m.Hour() == 0 {
			want = m.Format("2006-01-02")
		}
		if s, e := Format(hour); s != want || e != api.OK {
			t.Fatalf("Format(%d) = %q, %d, want %q", hour, s, e, want)
		}
		for _, s := range []string{want, full} {
			if back, e := Parse(s); back != hour || e != api.OK {
				t.Fatalf("Parse(%q) = %d, %d, want %d", s, back, e, hour)
			}
		}
	}
}

func TestFormatErrors(t *testing.T) { // P3.2
	for _, hour := range []int{-1, end, math.MinInt, math.MaxInt} {
		if s, e := Format(hour); s != "" || e != api.ErrRange {
			t.Errorf("Format(%d) = %q, %d", hour, s, e)
		}
	}
}

func TestParse(t *testing.T) { // P3.2
	for s, want := range map[string]int{
		"2000-01-01":    0,
		"2000-01-01T00": 0,
		"2000-01-01T09": 9,
		"2000-01-01T10": 10,
		"2000-01-02T00": 24,
		"2000-02-29T05": 1421,
		"2099-12-31":    api.MaxHour - 23,
		"2099-12-31T23": api.MaxHour,
	} {
		if hour, e := Parse(s); hour != want || e != api.OK {
			t.Errorf("Parse(%q) = %d, %d, want %d", s, hour, e, want)
		}
	}
}

func TestParseErrors(t *testing.T) { // P3.2
	for s, want := range map[string]api.Errno{
		"2000-00-01":    api.ErrRange,
		"2000-01-00":    api.ErrRange,
		"2000-13-01":    api.ErrRange,
		"2000-01-32":    api.ErrRange,
		"2001-02-29":    api.ErrRange,
		"2100-02-29":    api.ErrRange,
		"1999-12-31T23": api.ErrRange,
		"2100-01-01":    api.ErrRange,
		"0000-00-00":    api.ErrRange,
		"9999-99-99T99": api.ErrRange,
		"2000-01-01T24": api.ErrRange,
		"2000-01-01T99": api.ErrRange,

		"":                    api.ErrSyntax,
		"2":                   api.ErrSyntax,
		"2000-01":             api.ErrSyntax,
		"2000-01-1":           api.ErrSyntax,
		"2000-1-01":           api.ErrSyntax,
		"20000101":            api.ErrSyntax,
		"12000-01-01":         api.ErrSyntax,
		"2000-01-011":         api.ErrSyntax,
		"2000-01-01T":         api.ErrSyntax,
		"2000-01-01T5":        api.ErrSyntax,
		"2000-01-01T055":      api.ErrSyntax,
		"2000-01-01T05:00":    api.ErrSyntax,
		"2000-01-01t05":       api.ErrSyntax,
		"2000-01-01 05":       api.ErrSyntax,
		"2000-01-01-05":       api.ErrSyntax,
		"2000T01T01T05":       api.ErrSyntax,
		" 2000-01-01":         api.ErrSyntax,
		"2000-01-01\n":        api.ErrSyntax,
		"+200-01-01":          api.ErrSyntax,
		"-200-01-01":          api.ErrSyntax,
		"2000-+1-01":          api.ErrSyntax,
		"2000-01--1":          api.ErrSyntax,
		"2000-01-01T+5":       api.ErrSyntax,
		"2000-01-01T-5":       api.ErrSyntax,
		"2000-01-01T 5":       api.ErrSyntax,
		"2000-01-0\u0661":     api.ErrSyntax,
		"2000-01-\u0661":      api.ErrSyntax, // ten bytes, the last two of them an Arabic digit
		"2000-01-01T\u0661":   api.ErrSyntax,
		"2000\u20111-01":      api.ErrSyntax,
		"\x00000-01-01":       api.ErrSyntax,
		"2000-01-01T\xff\xff": api.ErrSyntax,
		// the syntax is examined before there is a day to look for
		"2000-13-0a":    api.ErrSyntax,
		"1999-01-01T0a": api.ErrSyntax,
		"200a-13-01":    api.ErrSyntax,
		"2001-02-29T5":  api.ErrSyntax,
		"2001-02-29t05": api.ErrSyntax,
	} {
		if hour, e := Parse(s); hour != 0 || e != want {
			t.Errorf("Parse(%q) = %d, %d, want %d", s, hour, e, want)
		}
	}
	if hour, e := Parse(strings.Repeat("2000-01-01", 1000)); hour != 0 || e != api.ErrSyntax {
		t.Errorf("Parse of a long text = %d, %d", hour, e)
	}
}

// TestParseBytes puts every byte at every place of a text.
func TestParseBytes(t *testing.T) { // P3.2
	for _, good := range []string{"2022-11-11", "2022-11-11T11"} {
		for i := range len(good) {
			for c := range 256 {
				s := good[:i] + string([]byte{byte(c)}) + good[i+1:]
				right := c == int(good[i])
				if good[i] >= '0' && good[i] <= '9' {
					right = c >= '0' && c <= '9'
				}
				if _, e := Parse(s); (e == api.ErrSyntax) == right {
					t.Errorf("Parse(%q): %d", s, e)
				}
			}
		}
	}
}

func TestAddMonths(t *testing.T) { // P3.3
	for _, x := range []struct {
		from string
		n    int
		want string
	}{
		{"2031-01-31", 1, "2031-02-28"},
		{"2032-01-31", 1, "2032-02-29"},
		{"2031-01-31", 2, "2031-03-31"},
		{"2031-01-31", 3, "2031-04-30"},
		{"2031-01-30T17", 1, "2031-02-28T17"},
		{"2031-01-28", 1, "2031-02-28"},
		{"2000-02-29T05", 12, "2001-02-28T05"},
		{"2000-02-29T05", 48, "2004-02-29T05"},
		{"2004-02-29T23", -12, "2003-02-28T23"},
		{"2000-03-31", -1, "2000-02-29"},
		{"2001-03-31", -1, "2001-02-28"},
		{"2001-05-31T01", -1, "2001-04-30T01"},
		{"2001-02-28", -1, "2001-01-28"},
		{"2000-12-15", 1, "2001-01-15"},
		{"2001-01-15", -1, "2000-12-15"},
		{"2001-01-15", -12, "2000-01-15"},
		{"2050-06-30", 0, "2050-06-30"},
		{"2000-01-31T23", 1199, "2099-12-31T23"},
		{"2000-02-29", 1198, "2099-12-29"},
		{"2099-12-31T23", -1199, "2000-01-31T23"},
		{"2099-12-31", -1198, "2000-02-29"},
		{"2099-11-30T23", 1, "2099-12-30T23"},
		{"2000-02-01", -1, "2000-01-01"},
	} {
		hour, e := AddMonths(at(t, x.from), x.n)
		if hour != at(t, x.want) || e != api.OK {
			t.Errorf("AddMonths(%s, %d) = %d, %d, want %s", x.from, x.n, hour, e, x.want)
		}
	}
}

func TestAddMonthsErrors(t *testing.T) { // P3.3
	for _, x := range []struct{ hour, n int }{
		{-1, 0}, {-1, 1}, {end, 0}, {end, -1}, {math.MinInt, 5}, {math.MaxInt, -5},
		{0, -1}, {743, -1}, {api.MaxHour, 1}, {api.MaxHour - 743, 1},
		{0, 1200}, {0, 1201}, {api.MaxHour, -1200}, {api.MaxHour, -1201},
		{0, math.MaxInt}, {0, math.MinInt}, {api.MaxHour, math.MaxInt}, {api.MaxHour, math.MinInt},
		{0, 1 << 62}, {0, -1 << 62}, {0, math.MinInt + 1}, {api.MaxHour, math.MaxInt - 1199},
	} {
		if hour, e := AddMonths(x.hour, x.n); hour != 0 || e != api.ErrRange {
			t.Errorf("AddMonths(%d, %d) = %d, %d", x.hour, x.n, hour, e)
		}
	}
}

// TestAddMonthsAgainstTime takes the last days of all months against package time, by which the day 0 of a month is the last one of the month before.
func TestAddMonthsAgainstTime(t *testing.T) { // P3.3
	for day := 0; day < end/24; day++ {
		hour := day*24 + day%24
		m := moment(hour)
		for _, n := range []int{-1300, -1200, -601, -24, -13, -12, -11, -2, -1, 0, 1, 2, 3, 6, 11, 12, 13, 25, 48, 599, 1199, 1200, 1300} {
			last := time.Date(m.Year(), m.Month()+time.Month(n+1), 0, m.Hour(), 0, 0, 0, time.UTC)
			target := time.Date(last.Year(), last.Month(), min(m.Day(), last.Day()), m.Hour(), 0, 0, 0, time.UTC)
			want, wantE := int(target.Sub(moment(0)).Hours()), api.OK
			if want < 0 || want > api.MaxHour {
				want, wantE = 0, api.ErrRange
			}
			if got, e := AddMonths(hour, n); got != want || e != wantE {
				t.Fatalf("AddMonths(%d, %d) = %d, %d, want %d, %d", hour, n, got, e, want, wantE)
			}
		}
	}
}

// bounds are hours at, beside and beyond the bounds of the calendar, and some within.
var bounds = []int{math.MinInt, math.MinInt + 1, -25, -1, 0, 1, 2, 24, 25, 48, 100, api.MaxHour - 1, api.MaxHour, end, end + 1, math.MaxInt}

func TestValid(t *testing.T) { // P3.4
	for _, from := range bounds {
		for _, to := range bounds {
			p := api.Period{From: from, To: to}
			if want := 0 <= from && from < to && to <= api.MaxHour+1; Valid(p) != want {
				t.Errorf("Valid(%v) = %v", p, !want)
			}
		}
	}
}

func TestContains(t *testing.T) { // P3.4
	p := api.Period{From: 10, To: 20}
	for hour, want := range map[int]bool{9: false, 10: true, 15: true, 19: true, 20: false, -1: false, math.MinInt: false, math.MaxInt: false} {
		if Contains(p, hour) != want {
			t.Errorf("Contains(%v, %d) = %v", p, hour, !want)
		}
	}
	for _, hour := range []int{0, api.MaxHour} {
		if !Contains(api.Period{From: 0, To: end}, hour) {
			t.Errorf("the whole calendar does not contain %d", hour)
		}
	}
	// no hour is in a period that is not valid
	for _, q := range []api.Period{{}, {From: 5, To: 5}, {From: 7, To: 4}, {From: -5, To: 10}, {From: 0, To: end + 1}, {From: math.MinInt, To: math.MaxInt}} {
		for _, hour := range []int{-1, 0, 4, 5, 6, 7, end} {
			if Contains(q, hour) {
				t.Errorf("Contains(%v, %d)", q, hour)
			}
		}
	}
}

// TestSmallPeriods takes all periods of a few hours against sets of their hours.
func TestSmallPeriods(t *testing.T) { // P3.4
	const few = 6
	for code := range (few + 2) * (few + 2) * (few + 2) * (few + 2) {
		digit := func() int { d := code%(few+2) - 1; code /= few + 2; return d }
		p, q := api.Period{From: digit(), To: digit()}, api.Period{From: digit(), To: digit()}
		var hours []int
		for hour := -1; hour <= few+1; hour++ {
			inP := p.From >= 0 && p.From <= hour && hour < p.To
			inQ := q.From >= 0 && q.From <= hour && hour < q.To
			if Contains(p, hour) != inP {
				t.Fatalf("Contains(%v, %d) = %v", p, hour, !inP)
			}
			if inP && inQ {
				hours = append(hours, hour)
			}
		}
		want := api.Period{}
		if len(hours) > 0 {
			want = api.Period{From: hours[0], To: hours[len(hours)-1] + 1}
		}
		if got, ok := Overlap(p, q); got != want || ok != (len(hours) > 0) {
			t.Fatalf("Overlap(%v, %v) = %v, %v, want %v", p, q, got, ok, want)
		}
	}
}

func TestOverlap(t *testing.T) { // P3.4
	whole := api.Period{From: 0, To: end}
	for _, x := range []struct{ p, q, want api.Period }{
		{api.Period{From: 10, To: 20}, api.Period{From: 15, To: 30}, api.Period{From: 15, To: 20}},
		{api.Period{From: 15, To: 30}, api.Period{From: 10, To: 20}, api.Period{From: 15, To: 20}},
		{api.Period{From: 10, To: 20}, api.Period{From: 12, To: 14}, api.Period{From: 12, To: 14}},
		{api.Period{From: 10, To: 20}, api.Period{From: 19, To: 21}, api.Period{From: 19, To: 20}},
		{api.Period{From: 10, To: 20}, whole, api.Period{From: 10, To: 20}},
		{whole, whole, whole},
		{whole, api.Period{From: api.MaxHour, To: end}, api.Period{From: api.MaxHour, To: end}},
	} {
		if got, ok := Overlap(x.p, x.q); got != x.want || !ok {
			t.Errorf("Overlap(%v, %v) = %v, %v, want %v", x.p, x.q, got, ok, x.want)
		}
	}
	// periods that touch have no common hour, and one that is not valid has none at all
	for _, x := range [][2]api.Period{
		{{From: 10, To: 20}, {From: 20, To: 30}},
		{{From: 20, To: 30}, {From: 10, To: 20}},
		{{From: 10, To: 20}, {From: 40, To: 50}},
		{{From: 10, To: 20}, {From: 15, To: 15}},
		{{From: 10, To: 20}, {From: 18, To: 12}},
		{{From: 10, To: 20}, {From: -5, To: 15}},
		{{From: -5, To: 15}, {From: 10, To: 20}},
		{{From: 10, To: 20}, {From: 15, To: end + 1}},
		{{From: 15, To: end + 1}, {From: 10, To: 20}},
		{{From: math.MinInt, To: math.MaxInt}, {From: 10, To: 20}},
		{{}, {From: 10, To: 20}},
		{{}, {}},
	} {
		if got, ok := Overlap(x[0], x[1]); got != (api.Period{}) || ok {
			t.Errorf("Overlap(%v, %v) = %v, %v", x[0], x[1], got, ok)
		}
	}
}

func TestDays(t *testing.T) { // P3.5
	for hours, want := range map[int]int{1: 1, 23: 1, 24: 1, 25: 2, 48: 2, 49: 3, 240: 10, 241: 11} {
		// the days are counted from the beginning of the period, not from midnight
		for _, from := range []int{0, 1, 10, 23, 24, 1000, end - 300} {
			if n := Days(api.Period{From: from, To: from + hours}); n != want {
				t.Errorf("Days of %d hours from %d on = %d, want %d", hours, from, n, want)
			}
		}
	}
	if n := Days(api.Period{From: 0, To: end}); n != 36525 {
		t.Errorf("Days of the whole calendar = %d", n)
	}
	for _, p := range []api.Period{{}, {From: 5, To: 5}, {From: 50, To: 5}, {From: -1, To: 30}, {From: 0, To: end + 1}, {From: math.MinInt, To: math.MaxInt}, {From: math.MaxInt, To: math.MinInt}} {
		if n := Days(p); n != 0 {
			t.Errorf("Days(%v) = %d", p, n)
		}
	}
}

func TestElapsed(t *testing.T) { // P3.5
	p := api.Period{From: 10, To: 10 + 49}
	for hour, want := range map[int]int{
		math.MinInt: 0, -100: 0, 0: 0, 9: 0, 10: 0,
		11: 1, 33: 1, 34: 1, 35: 2, 58: 2,
		59: 3, 60: 3, 1000: 3, end: 3, math.MaxInt: 3,
	} {
		if n, all := Elapsed(p, hour); n != want || all != 3 {
			t.Errorf("Elapsed(%v, %d) = %d, %d, want %d, 3", p, hour, n, all, want)
		}
	}
	whole := api.Period{From: 0, To: end}
	for hour, want := range map[int]int{math.MinInt: 0, -1: 0, 0: 0, 1: 1, api.MaxHour: 36525, api.MaxHour - 23: 36524, end: 36525, math.MaxInt: 36525} {
		if n, all := Elapsed(whole, hour); n != want || all != 36525 {
			t.Errorf("Elapsed(%v, %d) = %d, %d, want %d", whole, hour, n, all, want)
		}
	}
	for _, q := range []api.Period{{}, {From: 5, To: 5}, {From: 50, To: 5}, {From: -1, To: 30}, {From: 0, To: end + 1}, {From: math.MinInt, To: math.MaxInt}} {
		for _, hour := range []int{math.MinInt, -1, 0, 5, 20, end, end + 1, math.MaxInt} {
			if n, all := Elapsed(q, hour); n != 0 || all != 0 {
				t.Errorf("Elapsed(%v, %d) = %d, %d", q, hour, n, all)
			}
		}
	}
}

// TestElapsedCounts counts the beginnings of days one by one.
func TestElapsedCounts(t *testing.T) { // P3.5
	for _, from := range []int{0, 7, 24, end - 130} {
		for hours := 1; hours <= 130; hours++ {
			p := api.Period{From: from, To: from + hours}
			for hour := from - 30; hour <= from+160; hour++ {
				before, all := 0, 0
				for begin := p.From; begin < p.To; begin += 24 {
					all++
					if begin < hour {
						before++
					}
				}
				if n, m := Elapsed(p, hour); n != before || m != all || Days(p) != all {
					t.Fatalf("Elapsed(%v, %d) = %d, %d, and Days = %d, want %d, %d", p, hour, n, m, Days(p), before, all)
				}
			}
		}
	}
}

func TestYears(t *testing.T) { // P3.6
	for _, x := range []struct{ from, to, begins string }{
		{"2000-01-01", "2001-01-01", "2000-01-01"},
		{"2000-01-01", "2001-01-01T01", "2000-01-01 2001-01-01"},
		{"2000-01-01", "2000-12-31T23", "2000-01-01"},
		{"2000-01-01", "2000-01-01T01", "2000-01-01"},
		{"2030-07-15T06", "2033-07-15T06", "2030-07-15T06 2031-07-15T06 2032-07-15T06"},
		{"2030-07-15T06", "2033-07-15T07", "2030-07-15T06 2031-07-15T06 2032-07-15T06 2033-07-15T06"},
		{"2030-07-15T06", "2033-07-15T05", "2030-07-15T06 2031-07-15T06 2032-07-15T06"},
		// the fifth year begins on the leap day again
		{"2000-02-29", "2005-01-01", "2000-02-29 2001-02-28 2002-02-28 2003-02-28 2004-02-29"},
		{"2000-02-29", "2001-02-28T01", "2000-02-29 2001-02-28"},
		{"2000-02-29", "2001-02-28", "2000-02-29"},
		{"2098-06-01", "2099-12-31T23", "2098-06-01 2099-06-01"},
		{"2099-12-31T22", "2099-12-31T23", "2099-12-31T22"},
	} {
		p := api.Period{From: at(t, x.from), To: at(t, x.to)}
		var want []api.Period
		for _, begin := range strings.Fields(x.begins) {
			if len(want) > 0 {
				want[len(want)-1].To = at(t, begin)
			}
			want = append(want, api.Period{From: at(t, begin), To: p.To})
		}
		if got, e := Years(p); !slices.Equal(got, want) || e != api.OK {
			t.Errorf("Years(%s to %s) = %v, %d, want %v", x.from, x.to, got, e, want)
		}
	}
}

func TestYearsToTheEnd(t *testing.T) { // P3.6
	all, e := Years(api.Period{From: 0, To: end})
	if len(all) != 100 || e != api.OK {
		t.Fatalf("the calendar has %d years, %d", len(all), e)
	}
	for i, year := range all {
		from, _ := Hour(api.Date{Year: 2000 + i, Month: 1, Day: 1}, 0)
		hours := 365 * 24
		if i%4 == 0 {
			hours = 366 * 24
		}
		if year != (api.Period{From: from, To: from + hours}) {
			t.Errorf("the year %d is %v", 2000+i, year)
		}
	}
	last := api.Period{From: api.MaxHour, To: end}
	if got, e := Years(last); !slices.Equal(got, []api.Period{last}) || e != api.OK {
		t.Errorf("Years(%v) = %v, %d", last, got, e)
	}
}

func TestYearsErrors(t *testing.T) { // P3.6
	for _, p := range []api.Period{{}, {From: 7, To: 7}, {From: 8, To: 7}, {From: -1, To: 7}, {From: 7, To: end + 1}, {From: end, To: end + 1}, {From: math.MinInt, To: math.MaxInt}, {From: math.MaxInt, To: math.MinInt}} {
		if l, e := Years(p); len(l) != 0 || e != api.ErrPeriod {
			t.Errorf("Years(%v) = %v, %d", p, l, e)
		}
	}
}

// TestYearsAreThePeriod looks for gaps, for years that are empty, and for years that do not begin where AddMonths says.
func TestYearsAreThePeriod(t *testing.T) { // P3.6, P3.7
	for from := 0; from < end; from += 997 {
		for _, hours := range []int{1, 24, 8759, 8760, 8761, 8783, 8784, 8785, 17520, 17544, 100001, end} {
			p := api.Period{From: from, To: min(from+hours, end)}
			years, e := Years(p)
			if e != api.OK || len(years) == 0 || years[0].From != p.From || years[len(years)-1].To != p.To {
				t.Fatalf("Years(%v) = %v, %d", p, years, e)
			}
			for i, year := range years {
				begin, e := AddMonths(p.From, i*12)
				if e != api.OK || year.From != begin || !Valid(year) || i > 0 && years[i-1].To != begin {
					t.Fatalf("Years(%v): the year %d is %v", p, i, year)
				}
			}
			if next, e := AddMonths(p.From, len(years)*12); e == api.OK && next < p.To {
				t.Fatalf("Years(%v): a year from %d on is missing", p, next)
			}
		}
	}
}

func TestYearsShareNothing(t *testing.T) { // P3.6
	p := api.Period{From: 0, To: 50000}
	first, _ := Years(p)
	kept := slices.Clone(first)
	second, _ := Years(p)
	clear(second)
	if !slices.Equal(first, kept) {
		t.Error("two results share memory")
	}
}
