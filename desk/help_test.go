package desk_test

import (
	"fmt"
	"math"
	"math/rand"
	"reflect"
	"slices"
	"strconv"
	"strings"
	"testing"

	"shotline/api"
	"shotline/desk"
	"shotline/profile"
)

// The tests use the exported functions alone. What they expect is found in the words of the definitions, by model.

var extremes = []int{math.MinInt, -1000001, -1, 0, 1, 2, 3, 4, 5, 60, 61, 100, 1000, 1001, 3000, 3001, 3600, 4000, 4001, 10000, 10001, 30000, 30001, 100000, 100001, 300000, 400000, 400001, 1000000, 1000001, math.MaxInt}

// small is the desk of the examples, and example their log.
func small() api.DiveDesk {
	return api.DiveDesk{
		Vessels: []api.MixVessel{{Name: "c1", Volume: 12000, Most: 300000}},
		People:  []api.DeskPerson{{Name: "ann", Role: api.RoleDiver}, {Name: "bob", Role: api.RoleMaster}},
		Rules:   api.ExposureRules{Oxygen: api.OxygenLimits{Least: 160, Most: 1600}, Narcotic: 6000, Dense: 20000, Breath: 20000, Emergency: 40000, Pause: 60, Ascent: 900},
		Table:   []api.Compartment{{Nitrogen: 600, Helium: 240, Base: 500, Slope: 1500}},
	}
}

func example() []api.DeskEntry {
	return entries("bob fill in 0 c1 210 0 2400000", "ann plan p 1000 1 210 0 600 0 0", "ann dive d1 p ann 1 3600 c1")
}

// house is a desk with equipment: c1 is a vessel, and an item that is used twice for each test. There are people of all roles.
func house() api.DiveDesk {
	h := small()
	h.Vessels = append(h.Vessels, api.MixVessel{Name: "o2", Volume: 10000, Most: 200000}, api.MixVessel{Name: "bank", Volume: 50000, Most: 300000})
	h.Kit = api.KitSetup{
		Items: []api.KitItem{{Name: "k", Kind: api.KitCompressor}, {Name: "c1", Kind: api.KitCylinder}, {Name: "reg", Kind: api.KitRegulator, Bought: 3}},
		Rules: []api.KitRule{{Name: "test", Kind: api.KitCylinder, Days: 1000, Uses: 2}},
	}
	h.People = []api.DeskPerson{{Name: "ann", Role: api.RoleDiver}, {Name: "eve", Role: api.RoleDiver}, {Name: "mel", Role: api.RoleMixer}, {Name: "bob", Role: api.RoleMaster}}
	h.Rules.Table = []api.OxygenRow{{From: 500, Rate: 100}}
	h.Table = append(h.Table, api.Compartment{Nitrogen: 3000, Helium: 1200, Base: 400, Slope: 1300})
	return h
}

// diary is a log of the house. The dive d1 breathes 100000 of c1, d2 689380 of c1 and 161300 of o2.
func diary() []api.DeskEntry {
	return entries(
		"bob fill in 0 c1 210 0 2400000",
		"mel fill in 0 o2 500 0 1000000",
		"ann plan p 1000 1 210 0 600 0 0",
		"eve plan q 1013 2 210 0 500 0 60 1800 0 600 1800 0 120 600 0 300 600 1",
		"mel kit check 1 c1 test pass",
		"ann dive d1 p ann 1 3600 c1",
		"bob dive d2 q eve 2 0 c1 o2",
		"ann record d1 0 0 100 50 300 0",
		"mel sign d1",
		"bob fix 3 plan p 1000 1 210 0 300 0 0",
	)
}

// entry is who made an entry, a blank, and its text.
func entry(s string) api.DeskEntry {
	by, text, _ := strings.Cut(s, " ")
	return api.DeskEntry{By: by, Text: text}
}

func entries(l ...string) []api.DeskEntry {
	var log []api.DeskEntry
	for _, s := range l {
		log = append(log, entry(s))
	}
	return log
}

// more is a log with more entries behind it, in memory of its own.
func more(log []api.DeskEntry, l ...string) []api.DeskEntry {
	return append(append([]api.DeskEntry(nil), log...), entries(l...)...)
}

// full is a log of so many entries, which are all right.
func full(n int) []api.DeskEntry {
	var log []api.DeskEntry
	for i := range n {
		log = more(log, fmt.Sprint("bob plan p", i, " 1000 1 210 0"))
	}
	return log
}

func content(oxygen, helium, nitrogen int) api.MixContent {
	return api.MixContent{Oxygen: oxygen, Helium: helium, Nitrogen: nitrogen}
}

// flat is a value in which a nil list and an empty one are the same.
func flat(x any) string { return fmt.Sprintf("%+v", x) }

func expect(t *testing.T, what string, got any, e api.Errno, want any, wanted api.Errno) {
	t.Helper()
	if e != wanted || flat(got) != flat(want) || reflect.TypeOf(got) != reflect.TypeOf(want) {
		t.Errorf("%s: %+v, error %d; want %+v, error %d", what, got, e, want, wanted)
	}
}

// refuse checks that there is this error, beside a zero value.
func refuse[T any](t *testing.T, what string, got T, e, wanted api.Errno) {
	t.Helper()
	var zero T
	expect(t, what, got, e, zero, wanted)
}

// refused checks that an entry is refused behind a log with this error, or accepted if it is OK.
func refused(t *testing.T, h api.DiveDesk, log []api.DeskEntry, x api.DeskEntry, wanted api.Errno) {
	t.Helper()
	l, e := desk.Accept(h, log, x)
	if wanted == api.OK {
		expect(t, "Accept of "+flat(x), l, e, append(more(log), x), api.OK)
	} else {
		refuse(t, "Accept of "+flat(x), l, e, wanted)
	}
	_, n, e := desk.StateOf(h, append(more(log), x))
	if wanted == api.OK {
		expect(t, "entries up to "+flat(x), n, e, len(log)+1, wanted)
	} else {
		expect(t, "entries before "+flat(x), n, e, len(log), wanted)
	}
}

// asked is all that the functions are asked with.
type asked struct {
	h           api.DiveDesk
	log         []api.DeskEntry
	x           api.DeskEntry
	dive, diver string
	at          api.DeskMoment
	number      int
	line        string
}

// question is what every function answers.
func question() asked {
	return asked{
		h: house(), log: diary(), x: entry("bob fix 1 fill in 0 c1 210 0 2400001"), dive: "d1", diver: "eve",
		at: api.DeskMoment{Dive: "d2", Second: 780}, number: 7, line: "held c1",
	}
}

// functions call the functions of the package but for Recover and the methods of desks.
func functions() map[string]func(a asked) (any, api.Errno) {
	return map[string]func(a asked) (any, api.Errno){
		"CheckDesk": func(a asked) (any, api.Errno) { return nil, desk.CheckDesk(a.h) },
		"Accept":    func(a asked) (any, api.Errno) { return told(desk.Accept(a.h, a.log, a.x)) },
		"StateOf": func(a asked) (any, api.Errno) {
			s, _, e := desk.StateOf(a.h, a.log)
			return s, e
		},
		"the number of StateOf": func(a asked) (any, api.Errno) {
			_, n, e := desk.StateOf(a.h, a.log)
			return n, e
		},
		"Counting": func(a asked) (any, api.Errno) {
			l, _, e := desk.Counting(a.h, a.log)
			return l, e
		},
		"the numbers of Counting": func(a asked) (any, api.Errno) {
			_, l, e := desk.Counting(a.h, a.log)
			return l, e
		},
		"Contents":  func(a asked) (any, api.Errno) { return told(desk.Contents(a.h, a.log)) },
		"Booked":    func(a asked) (any, api.Errno) { return told(desk.Booked(a.h, a.log)) },
		"Breathed":  func(a asked) (any, api.Errno) { return told(desk.Breathed(a.h, a.log, a.dive)) },
		"Deviation": func(a asked) (any, api.Errno) { return told(desk.Deviation(a.h, a.log, a.dive)) },
		"Drill":     func(a asked) (any, api.Errno) { return told(desk.Drill(a.h, a.log, a.at)) },
		"LoadsOf":   func(a asked) (any, api.Errno) { return told(desk.LoadsOf(a.h, a.log, a.diver)) },
		"Unsigned":  func(a asked) (any, api.Errno) { return told(desk.Unsigned(a.h, a.log)) },
		"Moves":     func(a asked) (any, api.Errno) { return told(desk.Moves(a.h, a.log, a.number)) },
		"Changed":   func(a asked) (any, api.Errno) { return told(desk.Changed(a.h, a.log, a.x)) },
		"SealOf":    func(a asked) (any, api.Errno) { return told(desk.SealOf(a.log)) },
		"Journal":   func(a asked) (any, api.Errno) { return told(desk.Journal(a.log)) },
		"Report":    func(a asked) (any, api.Errno) { return told(desk.Report(a.h, a.log)) },
		"what Do writes": func(a asked) (any, api.Errno) {
			_, s := desk.Do(a.h, a.log, a.line)
			return errorIn(s)
		},
	}
}

func told[T any](x T, e api.Errno) (any, api.Errno) { return x, e }

// errorIn is the error that the console writes, or what else it writes.
func errorIn(s string) (any, api.Errno) {
	if number, ok := strings.CutPrefix(s, "error "); ok {
		n, _ := strconv.Atoi(number)
		return "", api.Errno(n)
	}
	return s, api.OK
}

// isZero tells whether a value is the zero value of its type, or an empty list.
func isZero(x any) bool {
	v := reflect.ValueOf(x)
	return !v.IsValid() || v.IsZero() || v.Kind() == reflect.Slice && v.Len() == 0
}

// roomy returns a list with room for more.
func roomy[T any](l []T) []T {
	return append(make([]T, 0, len(l)+5), l...)
}

// chance makes values of all kinds.
type chance struct{ *rand.Rand }

func newChance(seed int) chance { return chance{rand.New(rand.NewSource(int64(seed)))} }

func (c chance) from(least, most int) int { return least + c.Intn(most-least+1) }

// one of some words.
func (c chance) one(l ...string) string { return l[c.Intn(len(l))] }

// desk returns a right desk like the house, in which rules differ.
func (c chance) desk() api.DiveDesk {
	h := house()
	h.Rules.Breath = []int{1, 500, 20000}[c.Intn(3)]
	h.Kit.Rules[0].Uses = c.from(1, 5)
	if c.Intn(2) == 0 {
		h.Kit.Items = append(h.Kit.Items, api.KitItem{Name: "o2", Kind: c.from(1, 4)})
	}
	if c.Intn(4) == 0 {
		h.Kit = api.KitSetup{}
	}
	return h
}

// entry returns an entry that is mostly possible on a day, behind a log with a state.
func (c chance) entry(log []api.DeskEntry, s api.DeskState, day int) api.DeskEntry {
	if len(log) > 0 && c.Intn(5) == 0 {
		return c.fix(log, s, day)
	}
	return c.fact(c.one("fill", "fill", "kit", "plan", "dive", "dive", "dive", "dive", "record", "sign", "sign"), s, day)
}

// fix returns a fix of any entry, mostly by another fact of the same word.
func (c chance) fix(log []api.DeskEntry, s api.DeskState, day int) api.DeskEntry {
	i := c.Intn(len(log))
	word, _, _ := strings.Cut(log[i].Text, " ")
	if word == "fix" || c.Intn(10) == 0 {
		word = c.one("fill", "kit", "plan", "dive", "record", "sign")
	}
	text := c.fact(word, s, c.from(0, day)).Text
	if c.Intn(8) == 0 {
		text = log[i].Text
	}
	if rest, ok := strings.CutPrefix(log[i].Text, "plan "); ok && word == "plan" && c.Intn(10) > 0 { // the name and the gases stay
		p, _ := profile.ParsePlanLine(rest)
		p.Legs = nil
		text = "plan " + profile.FormatPlanLine(p) + c.legs(len(p.Gases))
	}
	number := i + 1
	if c.Intn(15) == 0 {
		number = c.from(0, len(log)+2)
	}
	return api.DeskEntry{By: c.one("bob", "bob", "bob", "bob", "mel"), Text: fmt.Sprint("fix ", number, " ", text)}
}

func (c chance) fact(word string, s api.DeskState, day int) api.DeskEntry {
	text := word + " " + c.rest(word, s, day)
	if c.Intn(40) == 0 { // a byte is lost
		i := c.Intn(len(text))
		text = text[:i] + text[i+1:]
	}
	by := c.one("ann", "eve", "mel", "bob")
	if word == "fill" || word == "kit" {
		by = c.one("mel", "bob", "bob", "ann")
	}
	return api.DeskEntry{By: by, Text: text}
}

func (c chance) rest(word string, s api.DeskState, day int) string {
	if c.Intn(3) == 0 {
		day += c.from(-1, 1)
	}
	switch word {
	case "fill":
		return c.fill(day)
	case "kit":
		return fmt.Sprintf(c.one("check %d c1 test pass", "check %d c1 test pass", "check %d c1 test fail", "use %d c1", "use %d reg", "fill %d k c1", "empty %d c1", "air %d k pass", "air %d k fail"), day)
	case "plan":
		return c.plan()
	case "dive":
		return c.dive(s, day)
	case "record":
		return c.record(s)
	}
	return c.dived(s)
}

func (c chance) vessel() string {
	return c.one("c1", "o2", "bank", "c1", "o2", "bank", "c1", "o2", "bank", "c9")
}

func (c chance) fill(day int) string {
	amount := []int{1, 7, 1000, 50003, 400000, 1000000, 2000000}[c.Intn(7)]
	switch c.Intn(6) {
	case 0:
		return fmt.Sprint(c.one("move ", "pump "), day, " ", c.vessel(), " ", c.vessel(), " ", amount)
	case 1:
		return fmt.Sprint("vent ", day, " ", c.vessel(), " ", amount)
	}
	return fmt.Sprint("in ", day, " ", c.vessel(), c.one(" 210 0 ", " 500 0 ", " 180 450 ", " 1000 0 "), amount)
}

func (c chance) plan() string {
	text := c.one("p", "q", "r", "s") + fmt.Sprint(" ", 1000+c.Intn(2)*13)
	gases := 1
	if c.Intn(3) == 0 {
		gases = 2
		text += " 2 210 0 500 0"
	} else {
		text += " 1" + c.one(" 210 0", " 180 450")
	}
	return text + c.legs(gases)
}

func (c chance) legs(gases int) string {
	text := ""
	for range c.Intn(4) {
		seconds := []int{60, 120, 300, 600, 1, 2000, 20001, 100001}[c.Intn(6+c.Intn(2)*2)]
		text += fmt.Sprint(" ", seconds, " ", c.Intn(4)*600, " ", c.Intn(gases))
	}
	return text
}

// dived is the name of a dive, mostly of one that there is.
func (c chance) dived(s api.DeskState) string {
	if len(s.Dives) > 0 && c.Intn(8) > 0 {
		return s.Dives[c.Intn(len(s.Dives))].Name
	}
	return fmt.Sprint("d", c.Intn(20))
}

// record is a recorded profile, mostly as long as the plan.
func (c chance) record(s api.DeskState) string {
	name := c.dived(s)
	d, _ := diveOf(s, name)
	end := endOf(s, d) - beginOf(d)
	if end > 1 && c.Intn(5) > 0 {
		return fmt.Sprint(name, " 0 0 ", c.from(1, end-1), " ", c.Intn(2000), " ", end, " 0")
	}
	return name + " " + c.one("0 0 600 0", "0 0 50 100 120 0", "0 0")
}

func (c chance) dive(s api.DeskState, day int) string {
	p := api.DivePlan{Name: c.one("p", "q", "r", "s"), Gases: make([]api.Gas, c.from(1, 2))}
	if len(s.Plans) > 0 && c.Intn(10) > 0 {
		p = s.Plans[c.Intn(len(s.Plans))]
	}
	text := fmt.Sprint("d", c.Intn(20), " ", p.Name, " ", c.one("ann", "eve", "ann", "eve", "mel", "bob", "zed"), " ", day, " ", c.Intn(20)*600)
	vessels := []string{"c1", "o2", "bank"}
	c.Shuffle(3, func(i, j int) { vessels[i], vessels[j] = vessels[j], vessels[i] })
	for i := range p.Gases {
		text += " " + vessels[i]
	}
	if c.Intn(12) == 0 {
		text += " " + c.vessel()
	}
	return text
}

// made is a desk with a right log, and with the entries that were tried behind its beginnings, by how many stood before.
type made struct {
	model
	tried map[int][]api.DeskEntry
}

// makeLog makes a desk and a log of at most 60 entries.
func makeLog(seed int) made {
	c := newChance(seed)
	m := made{model{c.desk(), nil}, map[int][]api.DeskEntry{}}
	m.log = entries("mel fill in 0 c1 210 0 3000000", "mel fill in 0 o2 500 0 1500000", "bob fill in 0 bank 210 0 9000000")[:c.Intn(4)]
	var s api.DeskState
	for i := range 60 {
		x := c.entry(m.log, s, i/8)
		m.tried[len(m.log)] = append(m.tried[len(m.log)], x)
		if l, e := desk.Accept(m.h, m.log, x); e == api.OK {
			m.log = l
			s, _, _ = desk.StateOf(m.h, m.log)
		}
	}
	return m
}

// madeLogs are the logs that were made before, in the order of their seeds.
var madeLogs []made

// someLogs calls a function with so many desks and logs by chance.
func someLogs(n int, call func(c chance, m made)) {
	for seed := range n {
		if seed == len(madeLogs) {
			madeLogs = append(madeLogs, makeLog(seed))
		}
		m := madeLogs[seed]
		m.log = slices.Clone(m.log)
		call(newChance(1000+seed), m)
	}
}
