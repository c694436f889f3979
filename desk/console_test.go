package desk_test

import (
	"fmt"
	"strings"
	"testing"

	"shotline/api"
	"shotline/desk"
)

// P10.7: reports of the example and of other logs.
func TestReport(t *testing.T) {
	seal := func(log []api.DeskEntry) int {
		n, _ := desk.SealOf(log)
		return n
	}
	log := more(example(), "bob sign d1")
	s, e := desk.Report(small(), log)
	expect(t, "Report", s, e, fmt.Sprintf("vessel c1 462000 0 1738000\ndive d1 ann p 1 3600 1\nlog 4 %d\n", seal(log)), api.OK)
	log = more(diary(), "bob sign d1", "eve dive a q eve 3 7 bank o2")
	s, e = desk.Report(house(), log[:11])
	want := "vessel c1 338230 0 1272390\nvessel o2 419350 0 419350\nvessel bank 0 0 0\n" +
		"dive d1 ann p 1 3600 2\ndive d2 eve q 2 0 0\n"
	expect(t, "Report", s, e, want+fmt.Sprintf("log 11 %d\n", seal(log[:11])), api.OK)
	log = more(log[:11], "bob fill in 2 bank 0 1000 6000000", "eve dive a q eve 3 7 bank o2", "bob sign a")
	s, e = desk.Report(house(), log)
	want = "vessel c1 338230 0 1272390\nvessel o2 338700 0 338700\nvessel bank 0 5310620 0\n" +
		"dive d1 ann p 1 3600 2\ndive d2 eve q 2 0 0\ndive a eve q 3 7 1\n"
	expect(t, "Report", s, e, want+fmt.Sprintf("log 14 %d\n", seal(log)), api.OK)
	s, e = desk.Report(house(), nil)
	expect(t, "Report of no entries", s, e, "vessel c1 0 0 0\nvessel o2 0 0 0\nvessel bank 0 0 0\nlog 0 0\n", api.OK)
	h := house()
	h.Vessels = nil
	s, e = desk.Report(h, nil)
	expect(t, "Report of no vessels", s, e, "log 0 0\n", api.OK)
}

// done checks what the console writes, and that the log is the one behind it.
func done(t *testing.T, h api.DiveDesk, log []api.DeskEntry, line, want string, after []api.DeskEntry) {
	t.Helper()
	l, s := desk.Do(h, log, line)
	expect(t, fmt.Sprintf("the log behind %.100q", line), l, api.OK, after, api.OK)
	expect(t, fmt.Sprintf("what %.100q writes", line), s, api.OK, want, api.OK)
}

// P10.8: lines that ask.
func TestAsking(t *testing.T) {
	h, log := house(), diary()
	report, _ := desk.Report(h, log)
	seal, _ := desk.SealOf(log)
	for line, want := range map[string]string{
		"held c1":         "338230 0 1272390",
		"held o2":         "419350 0 419350",
		"held bank":       "0 0 0",
		"held c9":         "error 6",
		"held k":          "error 6",
		"held ":           "error 6",
		"held  c1":        "error 6",
		"held c1 ":        "error 6",
		"held c1 o2":      "error 6",
		"held C1":         "error 6",
		"breathed d1":     "100000",
		"breathed d2":     "689380 161300",
		"breathed d9":     "error 6",
		"breathed ":       "error 6",
		"breathed  d1":    "error 6",
		"breathed d1 ":    "error 6",
		"report":          strings.TrimSuffix(report, "\n"),
		"seal":            fmt.Sprint(seal),
		"journal":         fmt.Sprint(len(journalOf(log))),
		"":                "error 7",
		" ":               "error 7",
		"held":            "error 7",
		"breathed":        "error 7",
		"do":              "error 7",
		"held\tc1":        "error 7",
		" held c1":        "error 7",
		"Held c1":         "error 7",
		"helds c1":        "error 7",
		"report ":         "error 7",
		" report":         "error 7",
		"reports":         "error 7",
		"seal ":           "error 7",
		"seal 1":          "error 7",
		"journal x":       "error 7",
		"journal\n":       "error 7",
		"x":               "error 7",
		"sign d1":         "error 7",
		"dodo bob sign 1": "error 7",
	} {
		done(t, h, log, line, want, log)
	}
	done(t, h, nil, "report", "vessel c1 0 0 0\nvessel o2 0 0 0\nvessel bank 0 0 0\nlog 0 0", nil)
	done(t, h, nil, "seal", "0", nil)
	done(t, h, nil, "journal", "0", nil)
	done(t, small(), example(), "held c1", "462000 0 1738000", example())
}

// P10.8: lines that do.
func TestDoing(t *testing.T) {
	h, log := house(), diary()
	for line, text := range map[string]string{
		"do bob sign d1":                         "bob sign d1",
		"do ann plan r 1000 1 210 0":             "ann plan r 1000 1 210 0",
		"do mel fill in 2 bank 210 0 1":          "mel fill in 2 bank 210 0 1",
		"do bob fix 3 plan p 1000 1 210 0 1 0 0": "bob fix 3 plan p 1000 1 210 0 1 0 0",
	} {
		done(t, h, log, line, "11", more(log, text))
	}
	done(t, h, nil, "do bob plan p 1000 1 210 0", "1", entries("bob plan p 1000 1 210 0"))
	for line, e := range map[string]api.Errno{
		"do ":                           api.ErrSyntax,
		"do bob":                        api.ErrSyntax,
		"do bob\n":                      api.ErrSyntax,
		"do zed":                        api.ErrSyntax,
		"do bob ":                       api.ErrSyntax,
		"do bob sign":                   api.ErrSyntax,
		"do bob sign d1\n":              api.ErrSyntax,
		"do  bob sign d1":               api.ErrMissing,
		"do  ":                          api.ErrMissing,
		"do zed ":                       api.ErrMissing,
		"do zed sign d1":                api.ErrMissing,
		"do bob  sign d1":               api.ErrKind,
		"do bob nothing d1":             api.ErrKind,
		"do bob " + wide("sign ", 401):  api.ErrLarge,
		"do bob " + wide("sign ", 400):  api.ErrMissing,
		"do ann sign d1":                api.ErrClash,
		"do mel sign d1":                api.ErrDouble,
		"do ann fill in 2 bank 210 0 1": api.ErrState,
		"do bob fill in 0 bank 210 0 1": api.ErrOrder,
		"do bob fill vent 2 bank 1":     api.ErrStock,
		"do bob plan p 1000 1 210 0":    api.ErrExists,
		"do bob plan p 1000 1 210":      api.ErrSyntax,
	} {
		done(t, h, log, line, fmt.Sprint("error ", int(e)), log)
	}
	done(t, h, full(59), "do bob plan p 1000 1 210 0", "60", more(full(59), "bob plan p 1000 1 210 0"))
	done(t, h, full(60), "do bob plan p 1000 1 210 0", "error 16", full(60))
	done(t, h, full(60), "do bob", "error 7", full(60))
	done(t, h, full(60), "journal", fmt.Sprint(len(journalOf(full(60)))), full(60))
}

// P10.8: with a wrong desk, or behind a wrong log, there is its error only.
func TestConsoleErrors(t *testing.T) {
	wrong := house()
	wrong.People[1].Role = 4
	for _, line := range []string{"", "x", "do", "do bob", "do bob sign d1", "held c1", "held c9", "breathed d1", "report", "seal", "journal"} {
		done(t, wrong, diary(), line, "error 15", nil)
		done(t, wrong, full(61), line, "error 15", nil)
		done(t, house(), full(61), line, "error 8", nil)
		done(t, house(), more(diary(), "ann sign d1"), line, "error 13", nil)
	}
}

// P10.8: the console behind logs by chance.
func TestConsoleByModel(t *testing.T) {
	someLogs(60, func(c chance, m made) {
		for n := range len(m.log) + 1 {
			for _, x := range m.tried[n] {
				want, after := fmt.Sprint(n+1), append(more(m.log[:n]), x)
				if e := (model{m.h, m.log[:n]}).errorOf(x); e != api.OK {
					want, after = fmt.Sprint("error ", int(e)), m.log[:n:n]
				}
				done(t, m.h, m.log[:n], "do "+x.By+" "+x.Text, want, after)
			}
		}
		for _, v := range m.h.Vessels {
			c := m.held(m.stateOf().Fills, v.Name)
			done(t, m.h, m.log, "held "+v.Name, fmt.Sprint(c.Oxygen, c.Helium, c.Nitrogen), m.log)
		}
		for _, d := range m.stateOf().Dives {
			l, _ := desk.Breathed(m.h, m.log, d.Name)
			done(t, m.h, m.log, "breathed "+d.Name, strings.Trim(fmt.Sprint(l), "[]"), m.log)
		}
		s, _ := desk.Report(m.h, m.log)
		expect(t, "Report", s, api.OK, m.report(), api.OK)
		done(t, m.h, m.log, "report", strings.TrimSuffix(s, "\n"), m.log)
	})
}

// report is the report of a log.
func (m model) report() string {
	s := m.stateOf()
	text := ""
	for _, v := range m.h.Vessels {
		c := m.held(s.Fills, v.Name)
		text += fmt.Sprintf("vessel %s %d %d %d\n", v.Name, c.Oxygen, c.Helium, c.Nitrogen)
	}
	for _, d := range s.Dives {
		signs := 0
		for _, x := range s.Signs {
			if x.Dive == d.Name {
				signs++
			}
		}
		text += fmt.Sprintf("dive %s %s %s %d %d %d\n", d.Name, d.Diver, d.Plan, d.Day, d.Second, signs)
	}
	seal := 0
	for _, n := range seals(m.log) {
		seal = n
	}
	return text + fmt.Sprintf("log %d %d\n", len(m.log), seal)
}
