package desk_test

import (
	"fmt"
	"strconv"
	"strings"

	"shotline/api"
	"shotline/exposure"
	"shotline/kit"
	"shotline/mix"
	"shotline/profile"
	"shotline/tissue"
)

// model is a desk and a log. What it tells it finds anew in all facts that count, from the first one on.
type model struct {
	h   api.DiveDesk
	log []api.DeskEntry
}

// numbered is a fact that counts, with its number.
type numbered struct {
	api.DeskEntry
	number int
}

func (m model) role(name string) int {
	for _, p := range m.h.People {
		if p.Name == name {
			return p.Role
		}
	}
	return 0
}

func isFix(text string) bool { return strings.HasPrefix(text, "fix ") }

// counting are the facts that count: of each one the text of the last fix of its number, if there is one.
func (m model) counting() []numbered {
	var facts []numbered
	for i, x := range m.log {
		if isFix(x.Text) {
			continue
		}
		for _, y := range m.log {
			if rest, ok := strings.CutPrefix(y.Text, fmt.Sprint("fix ", i+1, " ")); ok {
				x.Text = rest
			}
		}
		facts = append(facts, numbered{x, i + 1})
	}
	return facts
}

// number reads a number of at most so many digits.
func number(s string, digits int) (int, bool) {
	n, err := strconv.Atoi(s)
	return n, err == nil && strconv.Itoa(n) == s && len(strings.TrimPrefix(s, "-")) <= digits
}

// textError is the error of a text.
func (m model) textError(x api.DeskEntry) api.Errno {
	role := m.role(x.By)
	words := strings.Split(x.Text, " ")
	rest := strings.TrimPrefix(x.Text, words[0]+" ")
	if role == 0 {
		return api.ErrMissing
	}
	if len(x.Text) > 400 {
		return api.ErrLarge
	}
	if len(words) < 2 || strings.Contains(x.Text, "\n") {
		return api.ErrSyntax
	}
	switch words[0] {
	case "fill":
		if role == api.RoleDiver {
			return api.ErrState
		}
		_, e := mix.ParseFill(rest)
		return e
	case "kit":
		if role == api.RoleDiver {
			return api.ErrState
		}
		_, e := kit.ParseEvent(rest)
		return e
	case "plan":
		_, e := profile.ParsePlanLine(rest)
		return e
	case "dive":
		return diveError(words[1:])
	case "record":
		if len(words) < 3 {
			return api.ErrSyntax
		}
		_, e := profile.ParsePoints(strings.Join(words[2:], " "))
		return e
	case "sign":
		return api.OK
	case "fix":
		if role != api.RoleMaster {
			return api.ErrState
		}
		return m.fixTextError(x.By, words[1:])
	}
	return api.ErrKind
}

func diveError(words []string) api.Errno {
	if len(words) < 6 {
		return api.ErrSyntax
	}
	day, isDay := number(words[3], 7)
	second, isSecond := number(words[4], 7)
	switch {
	case !isDay || !isSecond:
		return api.ErrSyntax
	case !isName(words[0]):
		return api.ErrName
	case day < 0 || day > 100000 || second < 0 || second > 86399:
		return api.ErrRange
	}
	return api.OK
}

func isName(s string) bool {
	for i, c := range s {
		letter := strings.ContainsRune("abcdefghijklmnopqrstuvwxyzABCDEFGHIJKLMNOPQRSTUVWXYZ", c)
		if !letter && (i == 0 || !strings.ContainsRune("0123456789-", c)) {
			return false
		}
	}
	return 1 <= len(s) && len(s) <= 12
}

func (m model) fixTextError(by string, words []string) api.Errno {
	n, ok := number(words[0], 3)
	if !ok || len(words) < 2 {
		return api.ErrSyntax
	}
	text := strings.Join(words[1:], " ")
	if isFix(text) {
		return api.ErrKind
	}
	if n >= 1 && n <= len(m.log) && !isFix(m.log[n-1].Text) {
		by = m.log[n-1].By
	}
	return m.textError(api.DeskEntry{By: by, Text: text})
}

// errorOf is the error of an entry behind the log.
func (m model) errorOf(x api.DeskEntry) api.Errno {
	if e := m.textError(x); e != api.OK {
		return e
	}
	after := model{m.h, append(more(m.log), x)}
	if isFix(x.Text) {
		words := strings.SplitN(x.Text, " ", 4)
		n, _ := strconv.Atoi(words[1])
		if n < 1 || n > len(m.log) {
			return api.ErrMissing
		}
		if !strings.HasPrefix(m.log[n-1].Text, words[2]+" ") {
			return api.ErrKind
		}
	}
	_, e := after.state(after.counting())
	return e
}

// state is what facts come to, and the error of the first one that is refused.
func (m model) state(facts []numbered) (api.DeskState, api.Errno) {
	var s api.DeskState
	for _, f := range facts {
		word, rest, _ := strings.Cut(f.Text, " ")
		e := api.OK
		switch word {
		case "fill":
			x, _ := mix.ParseFill(rest)
			s.Fills, e = mix.AddFill(m.h.Vessels, s.Fills, x)
		case "kit":
			x, _ := kit.ParseEvent(rest)
			s.Events, e = kit.AddEvent(m.h.Kit, s.Events, x)
		case "plan":
			x, _ := profile.ParsePlanLine(rest)
			if _, ok := planOf(s, x.Name); ok {
				e = api.ErrExists
			}
			s.Plans = append(s.Plans, x)
		case "dive":
			s, e = m.dive(s, f.By, readDive(rest))
		case "record":
			name, line, _ := strings.Cut(rest, " ")
			points, _ := profile.ParsePoints(line)
			e = m.recordError(s, f.By, name)
			s.Records = append(s.Records, api.DeskRecord{Dive: name, Points: points})
		case "sign":
			x := api.DeskSign{Dive: rest, By: f.By}
			e = signError(s, x)
			s.Signs = append(s.Signs, x)
		}
		if e != api.OK {
			return api.DeskState{}, e
		}
	}
	return s, api.OK
}

func planOf(s api.DeskState, name string) (api.DivePlan, bool) {
	for _, p := range s.Plans {
		if p.Name == name {
			return p, true
		}
	}
	return api.DivePlan{}, false
}

func diveOf(s api.DeskState, name string) (api.DeskDive, bool) {
	for _, d := range s.Dives {
		if d.Name == name {
			return d, true
		}
	}
	return api.DeskDive{}, false
}

func readDive(rest string) api.DeskDive {
	words := strings.Split(rest, " ")
	day, _ := strconv.Atoi(words[3])
	second, _ := strconv.Atoi(words[4])
	return api.DeskDive{Name: words[0], Plan: words[1], Diver: words[2], Day: day, Second: second, Vessels: words[5:]}
}

func (m model) recordError(s api.DeskState, by, name string) api.Errno {
	d, ok := diveOf(s, name)
	if !ok {
		return api.ErrMissing
	}
	if m.role(by) == api.RoleDiver && by != d.Diver {
		return api.ErrState
	}
	for _, r := range s.Records {
		if r.Dive == name {
			return api.ErrDouble
		}
	}
	return api.OK
}

func signError(s api.DeskState, x api.DeskSign) api.Errno {
	d, ok := diveOf(s, x.Dive)
	if !ok {
		return api.ErrMissing
	}
	if d.Diver == x.By {
		return api.ErrClash
	}
	for _, y := range s.Signs {
		if x == y {
			return api.ErrDouble
		}
	}
	return api.OK
}

func beginOf(d api.DeskDive) int { return 86400*d.Day + d.Second }

func endOf(s api.DeskState, d api.DeskDive) int {
	p, _ := planOf(s, d.Plan)
	end := beginOf(d)
	for _, leg := range p.Legs {
		end += leg.Seconds
	}
	return end
}

// dive adds a dive, or tells why it is refused.
func (m model) dive(s api.DeskState, by string, d api.DeskDive) (api.DeskState, api.Errno) {
	p, isPlan := planOf(s, d.Plan)
	if _, ok := diveOf(s, d.Name); ok {
		return s, api.ErrExists
	}
	if !isPlan || m.role(d.Diver) == 0 {
		return s, api.ErrMissing
	}
	if m.role(by) == api.RoleDiver && by != d.Diver {
		return s, api.ErrState
	}
	if len(d.Vessels) != len(p.Gases) {
		return s, api.ErrShape
	}
	seen := map[string]bool{}
	for _, name := range d.Vessels {
		if m.vessel(name) < 0 {
			return s, api.ErrMissing
		}
		if seen[name] {
			return s, api.ErrDouble
		}
		seen[name] = true
	}
	for _, other := range s.Dives {
		if other.Diver == d.Diver && beginOf(d) < endOf(s, other) {
			return s, api.ErrBusy
		}
	}
	amounts, _ := exposure.Consumed(p, m.h.Rules.Breath)
	for i, name := range d.Vessels {
		e := api.OK
		for _, item := range m.h.Kit.Items {
			if item.Name == name {
				s.Events, e = kit.AddEvent(m.h.Kit, s.Events, api.KitEvent{Kind: api.KitUse, Day: d.Day, Item: name})
			}
		}
		if e == api.OK && amounts[i] > 0 {
			s.Fills, e = mix.AddFill(m.h.Vessels, s.Fills, api.MixFill{Kind: api.MixVent, Day: d.Day, From: name, Amount: amounts[i]})
		}
		if e != api.OK {
			return s, e
		}
	}
	s.Dives = append(s.Dives, d)
	return s, api.OK
}

func (m model) vessel(name string) int {
	for i, v := range m.h.Vessels {
		if v.Name == name {
			return i
		}
	}
	return -1
}

// stateOf is the state of the log.
func (m model) stateOf() api.DeskState {
	s, _ := m.state(m.counting())
	return s
}

// held is what a vessel holds behind fills.
func (m model) held(fills []api.MixFill, vessel string) api.MixContent {
	contents, _ := mix.Contents(m.h.Vessels, fills)
	return contents[m.vessel(vessel)]
}

// moves are what the facts move: the shares that their fills take out of their vessels, or what comes in.
func (m model) moves() []api.MixContent {
	facts := m.counting()
	var l []api.MixContent
	fills := 0
	for place := range facts {
		s, _ := m.state(facts[:place+1])
		var sum api.MixContent
		for i, f := range s.Fills[fills:] {
			moved := content(f.Amount*f.Gas.Oxygen/1000, f.Amount*f.Gas.Helium/1000, 0)
			moved.Nitrogen = f.Amount - moved.Oxygen - moved.Helium
			if f.Kind != api.MixIn {
				moved, _ = mix.Share(m.held(s.Fills[:fills+i], f.From), f.Amount)
			}
			sum = added(sum, moved)
		}
		fills = len(s.Fills)
		l = append(l, sum)
	}
	return l
}

func added(c, d api.MixContent) api.MixContent {
	return content(c.Oxygen+d.Oxygen, c.Helium+d.Helium, c.Nitrogen+d.Nitrogen)
}

// booked adds up what the facts move, by their words.
func (m model) booked() api.DeskGas {
	var g api.DeskGas
	moves := m.moves()
	for place, f := range m.counting() {
		moved := moves[place]
		switch {
		case strings.HasPrefix(f.Text, "fill in "):
			g.In = added(g.In, moved)
		case strings.HasPrefix(f.Text, "fill vent "):
			g.Vented = added(g.Vented, moved)
		case strings.HasPrefix(f.Text, "dive "):
			g.Breathed = added(g.Breathed, moved)
		}
	}
	s := m.stateOf()
	for _, v := range m.h.Vessels {
		g.Held = added(g.Held, m.held(s.Fills, v.Name))
	}
	return g
}

// loads are the loads of a diver, leg by leg.
func (m model) loads(diver string) ([]api.TissueLoad, api.Errno) {
	if m.role(diver) == 0 {
		return nil, api.ErrMissing
	}
	s := m.stateOf()
	var loads []api.TissueLoad
	end, e := 0, api.ErrNone
	for _, d := range s.Dives {
		if d.Diver != diver {
			continue
		}
		p, _ := planOf(s, d.Plan)
		if loads == nil {
			loads, e = tissue.Saturated(m.h.Table, api.Gas{Oxygen: 210}, p.Surface)
		} else {
			loads, e = tissue.Rested(m.h.Table, loads, p.Surface, min(beginOf(d)-end, 1000000))
		}
		end = endOf(s, d)
		depth := 0
		for _, leg := range p.Legs {
			if leg.Seconds > 100000 {
				return nil, api.ErrRange
			}
			x := api.TissueLeg{From: p.Surface + depth, To: p.Surface + leg.Depth, Seconds: leg.Seconds, Gas: p.Gases[leg.Gas]}
			loads, e = tissue.Loaded(m.h.Table, loads, x, 2)
			depth = leg.Depth
		}
	}
	return loads, e
}

// changed is what an entry changes that is right.
func (m model) changed(x api.DeskEntry) api.DeskChange {
	after := model{m.h, append(more(m.log), x)}
	var c api.DeskChange
	moves, others := m.moves(), after.moves()
	for place, f := range m.counting() {
		if moves[place] != others[place] {
			c.Facts = append(c.Facts, f.number)
		}
	}
	before, behind := m.stateOf(), after.stateOf()
	for _, v := range m.h.Vessels {
		if m.held(before.Fills, v.Name) != m.held(behind.Fills, v.Name) {
			c.Vessels = append(c.Vessels, v.Name)
		}
	}
	for _, p := range m.h.People {
		l, e := m.loads(p.Name)
		k, f := after.loads(p.Name)
		if e != f || flat(l) != flat(k) {
			c.Divers = append(c.Divers, p.Name)
		}
	}
	return c
}

// seals are the seals of the entries.
func seals(log []api.DeskEntry) []int {
	var l []int
	seal := 0
	for _, x := range log {
		for _, c := range []byte(x.By + " " + x.Text) {
			seal = (seal*257 + int(c) + 1) % 999999937
		}
		l = append(l, seal)
	}
	return l
}

func journalOf(log []api.DeskEntry) string {
	s := ""
	for i, seal := range seals(log) {
		s += fmt.Sprintf("%d %d %s %s\n", i+1, seal, log[i].By, log[i].Text)
	}
	return s
}
