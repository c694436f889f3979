package ascent_test

import (
	"math"
	"slices"
	"testing"

	"shotline/api"
	"shotline/ascent"
	"shotline/tissue"
)

// wrongAlone are schedules with the error that they have alone, which comes first.
func wrongAlone() []wrongSchedule {
	right := api.DiveLeg{Seconds: 1, Depth: 2000, Gas: 8} // alone: the task of the examples has no such gas
	l := []wrongSchedule{
		{api.AscentSchedule{Legs: make([]api.DiveLeg, 401), Fines: make([]int, 401)}, api.ErrLarge},
		{api.AscentSchedule{Legs: make([]api.DiveLeg, 401)}, api.ErrLarge},
		{api.AscentSchedule{Legs: make([]api.DiveLeg, 400), Fines: make([]int, 401)}, api.ErrShape},
		{api.AscentSchedule{Legs: make([]api.DiveLeg, 2), Fines: []int{-1}}, api.ErrShape},
		{api.AscentSchedule{Legs: make([]api.DiveLeg, 1)}, api.ErrShape},
		{api.AscentSchedule{Fines: make([]int, 1)}, api.ErrShape},
	}
	for _, leg := range []api.DiveLeg{{Seconds: 0}, {Seconds: -1}, {Seconds: 100001}, {Seconds: 1, Depth: -1}, {Seconds: 1, Depth: 30001}, {Seconds: 1, Gas: -1}, {Seconds: 1, Gas: 9},
		{Seconds: math.MaxInt, Depth: math.MaxInt, Gas: math.MaxInt}, {Seconds: math.MinInt, Depth: math.MinInt, Gas: math.MinInt}} {
		l = append(l, wrongSchedule{one(leg), api.ErrRange})
		l = append(l, wrongSchedule{api.AscentSchedule{Legs: []api.DiveLeg{right, right, leg}, Fines: []int{0, 6, 0}}, api.ErrRange})
	}
	for _, fine := range []int{-1, 7, math.MinInt, math.MaxInt} {
		l = append(l, wrongSchedule{api.AscentSchedule{Legs: []api.DiveLeg{right, right}, Fines: []int{0, fine}}, api.ErrRange})
	}
	return l
}

type wrongSchedule struct {
	s    api.AscentSchedule
	want api.Errno
}

// P4.4, P4.7: errors of schedules alone come ahead of those of their legs, and name no leg.
func TestWrongAlone(t *testing.T) {
	for _, w := range wrongAlone() {
		n, e := ascent.SecondsOf(w.s)
		refuse(t, flat(w.s), n, e, w.want)
		text, e := ascent.Print(w.s)
		refuse(t, flat(w.s), text, e, w.want)
		n, e = ascent.CheckSchedule(sample(0), w.s)
		refuse(t, flat(w.s), n, e, w.want)
		l, e := ascent.Following(sample(0), w.s)
		refuse(t, flat(w.s), l, e, w.want)
		stops, e := ascent.StopsOf(sample(0), w.s)
		refuse(t, flat(w.s), stops, e, w.want)
	}
}

// P4.4: sums of schedules, whatever their legs are.
func TestSecondsOf(t *testing.T) {
	n, e := ascent.SecondsOf(sampleSchedule())
	expect(t, "the example", n, e, 720, api.OK)
	n, e = ascent.SecondsOf(api.AscentSchedule{})
	expect(t, "no legs", n, e, 0, api.OK)
	s := api.AscentSchedule{Legs: slices.Repeat([]api.DiveLeg{{Seconds: 100000, Depth: 30000, Gas: 8}}, 400), Fines: slices.Repeat([]int{6}, 400)}
	n, e = ascent.SecondsOf(s)
	expect(t, "the most", n, e, 40000000, api.OK)
}

// P4.4: stops, whatever the legs are.
func TestStopsOf(t *testing.T) {
	legs := func(l ...api.DiveLeg) api.AscentSchedule {
		return api.AscentSchedule{Legs: l, Fines: make([]int, len(l))}
	}
	to := func(depth, seconds int) api.DiveLeg { return api.DiveLeg{Seconds: seconds, Depth: depth} }
	for _, test := range []struct {
		s    api.AscentSchedule
		want []api.AscentStop
	}{
		{sampleSchedule(), []api.AscentStop{{Depth: 500, Seconds: 600}}},
		{legs(), nil},
		{legs(to(0, 120)), nil},
		{legs(to(1000, 7)), []api.AscentStop{{Depth: 1000, Seconds: 7}}},
		{legs(to(1000, 1), to(1000, 2), to(1000, 4)), []api.AscentStop{{Depth: 1000, Seconds: 7}}},
		{legs(to(1000, 1), to(500, 60), to(500, 2), to(500, 4), to(400, 90), to(0, 90), to(0, 8), to(0, 16)),
			[]api.AscentStop{{Depth: 1000, Seconds: 1}, {Depth: 500, Seconds: 6}, {Depth: 0, Seconds: 24}}},
		{legs(to(2000, 1), to(2000, 2), to(1000, 1), to(2000, 1), to(2000, 4)), []api.AscentStop{{Depth: 2000, Seconds: 2}, {Depth: 2000, Seconds: 4}}},
		{legs(api.DiveLeg{Seconds: 1, Depth: 1000, Gas: 8}, to(1000, 2)), []api.AscentStop{{Depth: 1000, Seconds: 3}}},
	} {
		stops, e := ascent.StopsOf(sample(0), test.s)
		expect(t, flat(test.s), stops, e, test.want, api.OK)
	}
	x := sample(0)
	x.Depth = 500
	stops, e := ascent.StopsOf(x, sampleSchedule())
	expect(t, "from 500 on", stops, e, []api.AscentStop{{Depth: 500, Seconds: 660}}, api.OK)
	x.Depth = 0
	stops, e = ascent.StopsOf(x, legs(to(0, 5)))
	expect(t, "the surface", stops, e, []api.AscentStop{{Depth: 0, Seconds: 5}}, api.OK)
}

// P4.4: schedules that are accepted.
func TestCheckSchedule(t *testing.T) {
	n, e := ascent.CheckSchedule(sample(2400000), sampleSchedule())
	expect(t, "the example", n, e, 720, api.OK)
	finer := sampleSchedule()
	finer.Fines = []int{1, 1, 1}
	n, e = ascent.CheckSchedule(sample(2400000), finer)
	expect(t, "as fine as may be", n, e, 720, api.OK)
	x := sample(100000000)
	x.Depth = 0
	n, e = ascent.CheckSchedule(x, api.AscentSchedule{})
	expect(t, "the surface", n, e, 0, api.OK)

	// Off the grid, slower, and longer than need be.
	free := api.AscentSchedule{
		Legs:  []api.DiveLeg{{Seconds: 7, Depth: 1000}, {Seconds: 100, Depth: 613}, {Seconds: 1999, Depth: 613}, {Seconds: 3000, Depth: 13}, {Seconds: 90}, {Seconds: 5}},
		Fines: []int{0, 0, 0, 0, 0, 1},
	}
	n, e = ascent.CheckSchedule(sample(2400000), free)
	expect(t, "free", n, e, 5201, api.OK)
}

// P4.4: errors of legs of schedules, in their order, with the number of the leg.
func TestCheckScheduleRefuses(t *testing.T) {
	x := sample(2400000)
	x.Gases = append(x.Gases, api.AscentGas{Gas: air, Deepest: 499})
	for _, test := range []struct {
		leg  int
		x    api.DiveLeg
		fine int
		n    int
		want api.Errno
	}{
		{0, api.DiveLeg{Seconds: 60, Depth: 500, Gas: 2}, 2, 0, api.ErrMissing},
		{1, api.DiveLeg{Seconds: 600, Depth: 501, Gas: 1}, 2, 1, api.ErrKind},
		{1, api.DiveLeg{Seconds: 600, Depth: 501}, 2, 1, api.ErrOrder},
		{2, api.DiveLeg{Seconds: 59}, 2, 2, api.ErrBreak},
		{2, api.DiveLeg{Seconds: 60}, 2, 2, api.ErrRange},
		{1, api.DiveLeg{Seconds: 1, Depth: 0}, 0, 1, api.ErrBreak},
		{1, api.DiveLeg{Seconds: 60, Depth: 0}, 2, 1, api.ErrRange},
		{1, api.DiveLeg{Seconds: 60, Depth: 0}, 1, 1, api.ErrProof},
		{1, api.DiveLeg{Seconds: 1, Depth: 500}, 0, 2, api.ErrProof},
		{2, api.DiveLeg{Seconds: 60, Depth: 1}, 0, 0, api.ErrOpen},
		{0, api.DiveLeg{Seconds: 120}, 0, 0, api.ErrProof},
	} {
		s := sampleSchedule()
		s.Legs[test.leg], s.Fines[test.leg] = test.x, test.fine
		n, e := ascent.CheckSchedule(x, s)
		expect(t, flat(test), n, e, test.n, test.want)
	}
	n, e := ascent.CheckSchedule(x, api.AscentSchedule{})
	expect(t, "no legs at a depth", n, e, 0, api.ErrOpen)
	n, e = ascent.CheckSchedule(sample(3500001), one(api.DiveLeg{Seconds: 600, Depth: 1000}))
	expect(t, "a stay with too much", n, e, 0, api.ErrProof)

	// A proof that is too coarse, and one that is finer than the rules allow.
	x = sample(2000001)
	s := one(api.DiveLeg{Seconds: 120})
	n, e = ascent.CheckSchedule(x, s)
	expect(t, "too coarse", n, e, 0, api.ErrProof)
	s.Fines[0] = 1
	n, e = ascent.CheckSchedule(x, s)
	expect(t, "fine", n, e, 120, api.OK)
	x.Rules.Fine = 0
	n, e = ascent.CheckSchedule(x, s)
	expect(t, "finer than the rules", n, e, 0, api.ErrRange)
}

// checked returns what CheckSchedule is to return, by the definition.
func checked(x api.AscentTask, s api.AscentSchedule) (int, api.Errno) {
	for i, leg := range s.Legs {
		if e := legError(x, leg); e != api.OK {
			return i, e
		}
		if s.Fines[i] > x.Rules.Fine {
			return i, api.ErrRange
		}
		if k, _ := tissue.Kept(tissueTask(x, leg), s.Fines[i]); k != api.AnswerYes {
			return i, api.ErrProof
		}
		x = behind(x, leg)
	}
	if x.Depth > 0 {
		return 0, api.ErrOpen
	}
	return sumOf(s.Legs), api.OK
}

// P4.4: CheckSchedule, by the definition, of schedules that are right or nearly so.
func TestCheckScheduleByDefinition(t *testing.T) {
	count := map[api.Errno]int{}
	check := func(x api.AscentTask, s api.AscentSchedule) {
		if _, e := ascent.SecondsOf(s); e != api.OK {
			return
		}
		want, wanted := checked(x, s)
		n, e := ascent.CheckSchedule(x, s)
		expect(t, flat(x)+flat(s), n, e, want, wanted)
		count[e]++
	}
	someTasks(2000, func(c chance, x api.AscentTask) {
		check(x, c.schedule(x))
		s, e := ascent.Generate(x)
		if e != api.OK || len(s.Legs) == 0 {
			return
		}
		check(x, s)
		check(x, upTo(s, len(s.Legs)-1))
		i := c.Intn(len(s.Legs))
		s.Legs[i].Seconds += c.from(-40, 20)
		check(x, s)
		s.Fines[i] = min(6, s.Fines[i]+c.from(0, 1))
		check(x, s)
	})
	for _, e := range []api.Errno{api.OK, api.ErrRange, api.ErrKind, api.ErrOrder, api.ErrBreak, api.ErrProof, api.ErrOpen} {
		if count[e] < 20 {
			t.Errorf("%d schedules have the error %d", count[e], e)
		}
	}
}

// P4.4, P4.11: Following, leg by leg, is Moved again and again.
func TestFollowing(t *testing.T) {
	x := sample(2400000)
	l, e := ascent.Following(x, sampleSchedule())
	if len(l) != 3 || e != api.OK || l[0].Depth != 500 || l[1].Depth != 500 || l[2].Depth != 0 {
		t.Fatalf("Following: %+v, error %d", l, e)
	}
	for i, r := range []api.Range{{Lo: 2315000, Hi: 2342000}, {Lo: 1725000, Hi: 1739000}} {
		if got := l[i].Loads[0].Nitrogen; got.Lo < r.Lo || got.Hi > r.Hi {
			t.Errorf("behind the leg %d: %v", i, got)
		}
	}
	l, e = ascent.Following(x, api.AscentSchedule{})
	expect(t, "no legs", l, e, []api.AscentTask{}, api.OK)
	s := sampleSchedule()
	s.Legs[1], s.Fines[0] = api.DiveLeg{Seconds: 120}, 6 // neither is proved
	l, e = ascent.Following(x, s)
	if len(l) != 3 || e != api.OK {
		t.Errorf("unproved legs: %+v, error %d", l, e)
	}
	s.Legs[2].Depth, s.Legs[2].Gas = 1, 7
	l, e = ascent.Following(x, s)
	refuse(t, "a wrong leg", l, e, api.ErrMissing)
	wrong := 0
	someTasks(1000, func(c chance, x api.AscentTask) {
		s := c.schedule(x)
		if _, e := ascent.SecondsOf(s); e != api.OK {
			return
		}
		var want []api.AscentTask
		wanted, y := api.OK, x
		for _, leg := range s.Legs {
			if y, wanted = ascent.Moved(y, leg); wanted != api.OK {
				want = nil
				wrong++
				break
			}
			want = append(want, y)
		}
		l, e := ascent.Following(x, s)
		expect(t, flat(x), l, e, want, wanted)
	})
	if wrong < 50 {
		t.Errorf("%d wrong schedules", wrong)
	}
}
