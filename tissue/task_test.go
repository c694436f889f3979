package tissue_test

import (
	"testing"

	"shotline/api"
	"shotline/tissue"
)

// fresh is a task on the first table, from loads that are saturated with air at 1000.
func fresh(x api.TissueLeg, factor int) api.TissueTask {
	return api.TissueTask{Table: first(), Loads: nitrogen(740230, 740230), Leg: x, Factor: factor}
}

// ascent is a leg up to the surface of tasks with some load of nitrogen at 2000.
func ascent(load, seconds int) api.TissueTask {
	x := fresh(api.TissueLeg{From: 2000, To: 1000, Seconds: seconds, Gas: air}, 1000)
	x.Loads = nitrogen(load, load)
	return x
}

// P3.6: errors of tasks, and of finenesses, in their order.
func TestWrongTasks(t *testing.T) {
	tests := []struct {
		x    api.TissueTask
		want api.Errno
	}{
		{api.TissueTask{Factor: -1}, api.ErrShape},
		{api.TissueTask{Table: wrongCompartments()[:1]}, api.ErrRange},
		{api.TissueTask{Table: first(), Factor: -1}, api.ErrShape},
		{api.TissueTask{Table: first(), Loads: nitrogen(1, 0), Factor: -1}, api.ErrOrder},
		{fresh(api.TissueLeg{From: 1000, To: 1001, Gas: air}, -1), api.ErrZero},
		{fresh(api.TissueLeg{From: 1000, To: 1000, Gas: fullGas}, 1001), api.ErrSum},
		{fresh(stay(399, 1), 0), api.ErrRange},
		{fresh(down(), -1), api.ErrRange},
		{fresh(down(), 1001), api.ErrRange},
	}
	for _, test := range tests {
		if e := tissue.CheckTask(test.x); e != test.want {
			t.Errorf("%v: error %d, want %d", test.x, e, test.want)
		}
		for _, fine := range []int{0, -1, 7} {
			wrongTask(t, test.x, fine, test.want)
		}
	}
	for _, factor := range []int{0, 1000} {
		if e := tissue.CheckTask(fresh(down(), factor)); e != api.OK {
			t.Errorf("the factor %d: error %d", factor, e)
		}
		for _, fine := range []int{-1, 7} {
			wrongTask(t, fresh(down(), factor), fine, api.ErrRange)
			wrongTask(t, fresh(stay(1000, 0), factor), fine, api.ErrRange)
		}
	}
}

func wrongTask(t *testing.T, x api.TissueTask, fine int, want api.Errno) {
	t.Helper()
	k, e := tissue.Kept(x, fine)
	refuse(t, flat(x), k, e, want)
	p, e := tissue.Peaks(x, fine)
	refuse(t, flat(x), p, e, want)
	k, n, e := tissue.Decided(x, fine)
	refuse(t, flat(x), k, e, want)
	refuse(t, flat(x), n, e, want)
}

// P3.6: answers of tasks.
func TestKept(t *testing.T) {
	// The limits of the first table are 3500000 at 2000, and 2000000 at 1000.
	tests := []struct {
		x    api.TissueTask
		fine int
		want int
	}{
		{fresh(stay(4000, 600), 1000), 0, api.AnswerYes},
		{fresh(stay(1000, 0), 1000), 0, api.AnswerYes},
		{fresh(stay(1000, 0), 0), 6, api.AnswerYes},
		{fresh(stay(740, 0), 0), 0, api.AnswerNo},   // 740230 is more than 740
		{fresh(stay(740, 600), 0), 0, api.AnswerNo}, // broken at its first mark alone
		{ascent(2000000, 60), 0, api.AnswerYes},
		{ascent(2000001, 60), 0, api.AnswerMaybe}, // the peak is ahead of the step, the limit that behind it
		{ascent(2000001, 60), 1, api.AnswerYes},
		{ascent(3500000, 60), 6, api.AnswerNo}, // broken at its last mark alone
		{ascent(3500001, 60), 0, api.AnswerNo},
		{ascent(3500000, 1), 0, api.AnswerNo},
		{ascent(3500000, 1), 6, api.AnswerNo},
	}
	for _, test := range tests {
		k, e := tissue.Kept(test.x, test.fine)
		expect(t, flat(test), k, e, test.want, api.OK)
	}
	// A leg of no time is kept if the upper ends keep limits, broken if the lower ends do not, and otherwise undecided.
	x := fresh(stay(1000, 0), 1000)
	for l, want := range map[api.TissueLoad]int{
		load(1999999, 2000000, 0, 0): api.AnswerYes,
		load(2000000, 2000001, 0, 0): api.AnswerMaybe,
		load(2000000, 2000000, 0, 1): api.AnswerMaybe,
		load(2000000, 2000000, 1, 1): api.AnswerNo,
	} {
		x.Loads = []api.TissueLoad{l}
		for fine := range api.MaxRefine + 1 {
			k, e := tissue.Kept(x, fine)
			expect(t, flat(l), k, e, want, api.OK)
		}
	}
}

// P3.6: at marks pressures are rounded up, in steps rounded down.
func TestPressuresOfMarks(t *testing.T) {
	// A limit that is the pressure, and half times so long that loads hardly change: the rounding of pressures decides.
	table := []api.Compartment{{Nitrogen: 100000, Helium: 100000, Slope: 1000}}
	for _, x := range []api.TissueLeg{{From: 1001, To: 1000, Seconds: 2, Gas: air}, {From: 1000, To: 1001, Seconds: 2, Gas: air}} {
		for n := 999000; n <= 1002000; n += 10 {
			task := api.TissueTask{Table: table, Loads: nitrogen(n, n), Leg: x}
			for fine := range 3 {
				k, e := tissue.Kept(task, fine)
				want, _ := answerOf(task, fine)
				expect(t, flat(task), k, e, want, api.OK)
			}
		}
	}
}

// P3.6: peaks.
func TestPeaks(t *testing.T) {
	tests := []struct {
		x    api.TissueTask
		fine int
		want []int
	}{
		{fresh(stay(4000, 600), 1000), 0, []int{1925230}},
		{fresh(down(), 1000), 0, []int{1925230}},
		{fresh(down(), 1000), 1, []int{1679809}},
		{fresh(stay(4000, 0), 1000), 3, []int{740230}},
		{ascent(3500000, 60), 2, []int{3500000}},
	}
	for _, test := range tests {
		p, e := tissue.Peaks(test.x, test.fine)
		expect(t, flat(test), p, e, test.want, api.OK)
	}
	x := api.TissueTask{Table: three(), Loads: []api.TissueLoad{load(1, 2, 3, 40), load(5, 6, 7, 800), load(0, 0, 0, 0)}, Leg: stay(1000, 0)}
	p, e := tissue.Peaks(x, 6)
	expect(t, "no time", p, e, []int{42, 806, 0}, api.OK)
	// Helium comes in as nitrogen goes out: the peak is that of both, though they are never there together.
	x = api.TissueTask{Table: first(), Loads: nitrogen(3000000, 3000000), Leg: api.TissueLeg{From: 3063, To: 3063, Seconds: 600, Gas: helium}}
	p, e = tissue.Peaks(x, 0)
	behind, _ := tissue.Loaded(x.Table, x.Loads, x.Leg, 0)
	expect(t, "both parts", p, e, []int{3000000 + behind[0].Helium.Hi}, api.OK)
}

// P3.6: answers and peaks, by the definition; P3.8: with one fineness kept, with no other one broken.
func TestTasksByDefinition(t *testing.T) {
	count := map[int]int{}
	someTasks(400, func(x api.TissueTask, most int) {
		var answers []int
		for fine := range api.MaxRefine + 1 {
			want, peaks := answerOf(x, fine)
			k, e := tissue.Kept(x, fine)
			expect(t, flat(x), k, e, want, api.OK)
			p, e := tissue.Peaks(x, fine)
			expect(t, flat(x), p, e, peaks, api.OK)
			answers = append(answers, k)
			count[k]++
		}
		decided(t, x, most, answers)
		decided(t, x, api.MaxRefine, answers)
		least, greatest := api.AnswerMaybe, api.AnswerMaybe
		for _, k := range answers {
			least, greatest = min(least, k), max(greatest, k)
		}
		if least == api.AnswerNo && greatest == api.AnswerYes {
			t.Errorf("%v: both kept and broken: %v", x, answers)
		}
	})
	if count[api.AnswerNo] < 100 || count[api.AnswerMaybe] < 100 || count[api.AnswerYes] < 100 {
		t.Errorf("too few tasks with one of the answers: %v", count)
	}
}

// decided checks Decided against the answers of all finenesses.
func decided(t *testing.T, x api.TissueTask, most int, answers []int) {
	t.Helper()
	wantAnswer, wantFine := api.AnswerMaybe, most
	for fine := most; fine >= 0; fine-- {
		if answers[fine] != api.AnswerMaybe {
			wantAnswer, wantFine = answers[fine], fine
		}
	}
	k, n, e := tissue.Decided(x, most)
	expect(t, flat(x), k, e, wantAnswer, api.OK)
	expect(t, flat(x), n, e, wantFine, api.OK)
}

// P3.6: a fineness that decides more.
func TestDecided(t *testing.T) {
	tests := []struct {
		x                  api.TissueTask
		most, answer, fine int
	}{
		{fresh(stay(4000, 600), 1000), 6, api.AnswerYes, 0},
		{ascent(2000001, 60), 0, api.AnswerMaybe, 0},
		{ascent(2000001, 60), 1, api.AnswerYes, 1},
		{ascent(2000001, 60), 6, api.AnswerYes, 1},
		{ascent(3500001, 60), 6, api.AnswerNo, 0},
	}
	for _, test := range tests {
		k, n, e := tissue.Decided(test.x, test.most)
		expect(t, flat(test), k, e, test.answer, api.OK)
		expect(t, flat(test), n, e, test.fine, api.OK)
	}
	x := fresh(stay(1000, 0), 1000)
	x.Loads = nitrogen(2000000, 2000001)
	for most := range api.MaxRefine + 1 {
		k, n, e := tissue.Decided(x, most)
		expect(t, "never decided", k, e, api.AnswerMaybe, api.OK)
		expect(t, "never decided", n, e, most, api.OK)
	}
}

// P3.8: behind any beginning of a leg that is kept, loads do not surely break the limits.
func TestEveryInstant(t *testing.T) {
	kept := 0
	someTasks(1500, func(x api.TissueTask, most int) {
		k, _, e := tissue.Decided(x, most)
		if e != api.OK || k != api.AnswerYes {
			return
		}
		kept++
		for second := 1; second <= x.Leg.Seconds; second += 1 + x.Leg.Seconds/40 {
			pressure := plus(rat(x.Leg.From, 1), times(rat(x.Leg.To-x.Leg.From, 1), rat(second, x.Leg.Seconds)))
			if !pressure.IsInt() {
				continue
			}
			at := rounded(pressure).Lo
			begun := api.TissueLeg{From: x.Leg.From, To: at, Seconds: second, Gas: x.Leg.Gas}
			for fine := range api.MaxRefine + 1 {
				l, _ := tissue.Loaded(x.Table, x.Loads, begun, fine)
				if k, e := tissue.KeptAt(x.Table, l, [2]int{at, x.Factor}); k == api.AnswerNo || e != api.OK {
					t.Errorf("%v: limits are broken at the second %d, error %d", x, second, e)
				}
			}
		}
	})
	if kept < 100 {
		t.Errorf("%d tasks are kept", kept)
	}
}
