package ascent_test

import (
	"slices"
	"strings"
	"testing"

	"shotline/api"
	"shotline/ascent"
)

// P1: no function panics, whatever its numbers, and beside an error each other result is its zero value.
func TestEveryNumber(t *testing.T) {
	numbers := func(x *api.AscentTask) []*int {
		return []*int{&x.Table[0].Nitrogen, &x.Table[0].Base, &x.Table[0].Slope, &x.Loads[0].Nitrogen.Lo, &x.Loads[0].Nitrogen.Hi, &x.Loads[0].Helium.Hi,
			&x.Surface, &x.Depth, &x.Gases[0].Gas.Oxygen, &x.Gases[0].Gas.Helium, &x.Gases[0].Deepest, &x.Rules.Speed, &x.Rules.Grid, &x.Rules.Step,
			&x.Rules.Low, &x.Rules.High, &x.Rules.Anchor, &x.Rules.Fine}
	}
	for i := range numbers(new(sample(0))) {
		for _, n := range extremes {
			for _, load := range []int{740230, 2400000} {
				x := sample(load)
				*numbers(&x)[i] = n
				everyFunction(t, x, sampleSchedule())
			}
		}
	}
	everyFunction(t, api.AscentTask{}, api.AscentSchedule{})
	for i := range 4 {
		for _, n := range extremes {
			s := sampleSchedule()
			leg := &s.Legs[1]
			*[]*int{&leg.Seconds, &leg.Depth, &leg.Gas, &s.Fines[1]}[i] = n
			everyFunction(t, sample(2400000), s)
		}
	}
	for _, a := range extremes {
		for _, b := range extremes {
			y, e := ascent.Changed(sample(740230), api.AscentChange{Kind: a, Value: b})
			zeroBeside(t, "Changed", y, e)
			n, e := ascent.RiseSeconds(rightRules()[0], a, b)
			zeroBeside(t, "RiseSeconds", n, e)
		}
	}
}

// everyFunction calls each function that takes a task or a schedule.
func everyFunction(t *testing.T, x api.AscentTask, s api.AscentSchedule) {
	t.Helper()
	var leg api.DiveLeg
	if len(s.Legs) > 1 {
		leg = s.Legs[1]
	}
	n, e := ascent.GasFor(x, x.Depth)
	zeroBeside(t, "GasFor", n, e)
	task, e := ascent.TaskOf(x, leg)
	zeroBeside(t, "TaskOf", task, e)
	y, e := ascent.Moved(x, leg)
	zeroBeside(t, "Moved", y, e)
	n, e = ascent.Direct(x)
	zeroBeside(t, "Direct", n, e)
	made, e := ascent.Generate(x)
	zeroBeside(t, "Generate", made, e)
	if n, e := ascent.CheckSchedule(x, s); n < 0 || e != api.OK && n > len(s.Legs) {
		t.Errorf("CheckSchedule: %d, error %d", n, e)
	}
	l, e := ascent.Following(x, s)
	zeroBeside(t, "Following", l, e)
	n, e = ascent.SecondsOf(s)
	zeroBeside(t, "SecondsOf", n, e)
	stops, e := ascent.StopsOf(x, s)
	zeroBeside(t, "StopsOf", stops, e)
	n, e = ascent.NoStopSeconds(x)
	zeroBeside(t, "NoStopSeconds", n, e)
	for _, y := range []api.AscentTask{x, {Table: x.Table, Loads: x.Loads, Surface: x.Surface, Gases: x.Gases, Rules: x.Rules}} {
		z, e := ascent.Begun(y, api.DivePlan{Surface: x.Surface, Gases: []api.Gas{air}, Legs: s.Legs})
		zeroBeside(t, "Begun", z, e)
		z, e = ascent.Rested(y, leg.Seconds)
		zeroBeside(t, "Rested", z, e)
	}
	seconds, e := ascent.Variants(x, []api.AscentChange{{Value: leg.Seconds}, {Kind: api.AscentLost, Value: leg.Gas}, {Kind: api.AscentFactor, Value: leg.Depth}})
	zeroBeside(t, "Variants", seconds, e)
	text, e := ascent.Print(s)
	zeroBeside(t, "Print", text, e)
}

// P1: the same of texts: each one in which some bytes of a right one are others, or missing.
func TestEveryText(t *testing.T) {
	for i := range sampleText {
		for _, part := range []string{"", " ", "\n", "\t", "-", "0", "9", "x", "leg", "\x00", "\xff", "\u00a0", "\r", "9999999", "99999999999999999999"} {
			for _, s := range []string{sampleText[:i] + part, sampleText[:i] + part + sampleText[i:], sampleText[:i] + part + sampleText[i+1:]} {
				x, n, e := ascent.Parse(s)
				zeroBeside(t, "Parse", x, e)
				if (e == api.ErrSyntax) != (n > 0) || n < 0 || n > strings.Count(s, "\n")+1 {
					t.Errorf("Parse(%q): line %d, error %d", s, n, e)
				}
				if back, e2 := ascent.Print(x); e == api.OK && (back != s || e2 != api.OK) {
					t.Errorf("Parse(%q): %v, whose text is %q", s, x, back)
				}
			}
		}
	}
}

// memory has where lists begin, and what they are.
type memory map[any]string

// add adds a list, which is to share no memory with those that were added.
func add[T any](t *testing.T, m memory, what string, l []T) {
	t.Helper()
	if len(l) == 0 {
		return
	}
	if m[&l[0]] != "" {
		t.Errorf("%s shares memory with %s", what, m[&l[0]])
	}
	m[&l[0]] = what
}

func (m memory) task(t *testing.T, what string, x api.AscentTask) {
	t.Helper()
	add(t, m, what+" (table)", x.Table)
	add(t, m, what+" (loads)", x.Loads)
	add(t, m, what+" (gases)", x.Gases)
}

func (m memory) schedule(t *testing.T, what string, s api.AscentSchedule) {
	t.Helper()
	add(t, m, what+" (legs)", s.Legs)
	add(t, m, what+" (fines)", s.Fines)
}

// R6, R7: no argument is changed, results share no memory with arguments or with each other, and come again.
func TestArgumentsStay(t *testing.T) {
	someTasks(300, func(_ chance, x api.AscentTask) {
		if x.Depth == 0 || gasFor(x, x.Depth) < 0 {
			return
		}
		x.Gases = append(x.Gases, api.AscentGas{Gas: air})
		s := api.AscentSchedule{Legs: []api.DiveLeg{stay(x), rise(x, 0)}, Fines: []int{0, 0}}
		before := flat([]any{x, s})
		told := results(t, x, s)
		if flat([]any{x, s}) != before {
			t.Fatalf("%s is changed: %+v, %+v", before, x, s)
		}
		if again := results(t, x, s); again != told {
			t.Fatalf("%+v: other results than before: %s, %s", x, told, again)
		}
	})
}

// results returns all that is told of a task and a schedule, and checks that it is new memory.
func results(t *testing.T, x api.AscentTask, s api.AscentSchedule) string {
	t.Helper()
	var l []any
	m := memory{}
	m.task(t, "the task", x)
	m.schedule(t, "the schedule", s)
	keep := func(what string, y api.AscentTask, e api.Errno) {
		t.Helper()
		m.task(t, what, y)
		if l = append(l, y); e != api.OK {
			t.Errorf("%s of %+v: error %d", what, x, e)
		}
	}
	of, _ := ascent.TaskOf(x, s.Legs[0])
	add(t, m, "the table of TaskOf", of.Table)
	add(t, m, "the loads of TaskOf", of.Loads)
	moved, e := ascent.Moved(x, s.Legs[0])
	keep("Moved", moved, e)
	made, _ := ascent.Generate(x)
	m.schedule(t, "Generate", made)
	all, e := ascent.Following(x, s)
	for _, y := range all {
		keep("Following", y, e)
	}
	up := x
	up.Depth, up.Table, up.Loads, up.Gases = 0, slices.Clone(x.Table), slices.Clone(x.Loads), slices.Clone(x.Gases)
	m.task(t, "the task at the surface", up)
	p := dive(api.DiveLeg{Seconds: 60, Depth: 1000})
	p.Surface = x.Surface
	for range 2 {
		y, e := ascent.Begun(up, p)
		keep("Begun", y, e)
		y, e = ascent.Rested(up, 60)
		keep("Rested", y, e)
		p.Legs = nil
	}
	changes := []api.AscentChange{{Value: 60}, {Kind: api.AscentLost}, {Kind: api.AscentFactor}}
	for _, c := range changes {
		y, e := ascent.Changed(x, c)
		keep("Changed", y, e)
	}
	read, _, _ := ascent.Parse(sampleText)
	m.schedule(t, "Parse", read)
	k, _ := ascent.Direct(x)
	seconds, _ := ascent.NoStopSeconds(x)
	checked, _ := ascent.CheckSchedule(x, s)
	stops, _ := ascent.StopsOf(x, s)
	variants, _ := ascent.Variants(x, changes)
	return flat(append(l, of, made, read, k, seconds, checked, stops, variants))
}
