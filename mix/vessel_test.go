package mix_test

import (
	"math/big"
	"slices"
	"strings"
	"testing"

	"shotline/api"
	"shotline/mix"
)

// P6.1: what is wrong with vessels.
func TestCheckVessels(t *testing.T) {
	many := func(n int) []api.MixVessel {
		var l []api.MixVessel
		for i := range n {
			l = append(l, api.MixVessel{Name: "v" + strings.Repeat("x", i%10) + string(rune('a'+i)), Volume: 1, Most: 1})
		}
		return l
	}
	with := func(x api.MixVessel) []api.MixVessel { return append(room(), x) }
	for i, test := range []struct {
		l []api.MixVessel
		e api.Errno
	}{
		{nil, api.OK},
		{room(), api.OK},
		{many(20), api.OK},
		{many(21), api.ErrLarge},
		{append(many(20), api.MixVessel{}), api.ErrLarge},
		{with(api.MixVessel{Name: "S12", Volume: 1, Most: 1}), api.OK},
		{with(api.MixVessel{Name: "a", Volume: 1000000, Most: 400000}), api.OK},
		{with(api.MixVessel{Name: "", Volume: 0, Most: 1}), api.ErrName},
		{with(api.MixVessel{Name: "abcdefghijklm", Volume: 1, Most: 1}), api.ErrName},
		{with(api.MixVessel{Name: "1a", Volume: 1, Most: 1}), api.ErrName},
		{with(api.MixVessel{Name: "s 12", Volume: 1, Most: 1}), api.ErrName},
		{with(api.MixVessel{Name: "s12", Volume: 0, Most: 0}), api.ErrExists},
		{with(api.MixVessel{Name: "bank", Volume: 1, Most: 1}), api.ErrExists},
		{with(api.MixVessel{Name: "a", Volume: 0, Most: 1}), api.ErrRange},
		{with(api.MixVessel{Name: "a", Volume: 1000001, Most: 1}), api.ErrRange},
		{with(api.MixVessel{Name: "a", Volume: -1, Most: 1}), api.ErrRange},
		{with(api.MixVessel{Name: "a", Volume: 1, Most: 0}), api.ErrRange},
		{with(api.MixVessel{Name: "a", Volume: 1, Most: -1}), api.ErrRange},
		{with(api.MixVessel{Name: "a", Volume: 1, Most: 400001}), api.ErrRange},
		// The first vessel with an error decides.
		{append([]api.MixVessel{{Name: "a", Most: 1}}, many(1)...), api.ErrRange},
		{[]api.MixVessel{{Name: "a", Most: 1}, {}}, api.ErrRange},
		{[]api.MixVessel{{}, {Name: "a", Most: 1}}, api.ErrName},
		{[]api.MixVessel{{Name: "a", Volume: 1, Most: 1}, {Name: "a", Volume: 1, Most: 1}, {}}, api.ErrExists},
	} {
		if e := mix.CheckVessels(test.l); e != test.e {
			t.Errorf("vessels %d: error %d, want %d", i, e, test.e)
		}
		n, e := mix.CheckFills(test.l, nil)
		expect(t, "CheckFills", n, e, 0, test.e)
	}
}

// P6.1: what is wrong with a fill alone, in the order of its errors; where the fill would not be possible does not matter.
func TestFillsAlone(t *testing.T) {
	for _, test := range []struct {
		x api.MixFill
		e api.Errno
	}{
		{in(1, "bank", air, 1), api.OK},
		{in(100000, "bank", nitro, 1), api.OK},
		{move(1, "bank", "s12", 1), api.OK},
		{pump(1, "s12", "bank", 1), api.OK},
		{vent(1, "s12", 1), api.OK},
		{api.MixFill{Kind: 3, Day: -1, Amount: 0}, api.ErrKind},
		{api.MixFill{Kind: -1, Day: 1, Amount: 1, To: "bank"}, api.ErrKind},
		{in(-1, "bank", air, 1), api.ErrRange},
		{in(100001, "bank", air, 1), api.ErrRange},
		{in(1, "bank", air, 0), api.ErrRange},
		{in(1, "bank", air, -1), api.ErrRange},
		{in(1, "bank", air, 1000000001), api.ErrRange},
		{in(1, "bank", wideGas, 1), api.ErrRange},
		{in(1, "bank", api.Gas{Helium: -1}, 1), api.ErrRange},
		{in(1, "bank", fullGas, 1), api.ErrRange},
		{vent(-1, "x", 1), api.ErrRange},
		{vent(1, "x", 0), api.ErrRange},
		{move(100001, "x", "x", 1), api.ErrRange},
		{move(1, "x", "x", 1000000001), api.ErrRange},
		{api.MixFill{Kind: api.MixMove, Day: 1, From: "bank", To: "bank", Gas: air, Amount: 1}, api.ErrRange},
		{api.MixFill{Kind: api.MixMove, Day: 1, From: "bank", To: "s12", Gas: helium, Amount: 1}, api.ErrRange},
		{api.MixFill{Kind: api.MixVent, Day: 1, From: "bank", Gas: api.Gas{Helium: 1}, Amount: 1}, api.ErrRange},
		{api.MixFill{Kind: api.MixVent, Day: 1, From: "bank", To: "s12", Amount: 1, Gas: api.Gas{Oxygen: -1}}, api.ErrRange},
		{api.MixFill{Kind: api.MixIn, Day: 1, From: "s12", To: "bank", Gas: air, Amount: 1}, api.ErrForm},
		{api.MixFill{Kind: api.MixIn, Day: 1, From: " ", To: "y", Gas: air, Amount: 1}, api.ErrForm},
		{api.MixFill{Kind: api.MixVent, Day: 1, From: "bank", To: "s12", Amount: 1}, api.ErrForm},
		{api.MixFill{Kind: api.MixVent, Day: 1, From: "bank", To: "bank", Amount: 1}, api.ErrForm},
		{move(1, "bank", "bank", 1), api.ErrForm},
		{pump(1, "x", "x", 1), api.ErrForm},
		{move(1, "", "", 1), api.ErrForm},
		{api.MixFill{Kind: api.MixIn, Day: 1, To: "bank", Gas: air, Amount: 1, Pump: true}, api.ErrForm},
		{api.MixFill{Kind: api.MixVent, Day: 1, From: "bank", Amount: 1, Pump: true}, api.ErrForm},
		{in(1, "", air, 1), api.ErrMissing},
		{vent(1, "", 1), api.ErrMissing},
		{move(1, "", "bank", 1), api.ErrMissing},
		{move(1, "bank", "", 1), api.ErrMissing},
	} {
		l, e := mix.AddFill(room(), diary(), test.x)
		if test.e == api.OK {
			expect(t, "AddFill", l, e, append(diary(), test.x), api.OK)
		} else {
			refuse(t, flat(test.x), l, e, test.e)
		}
		n, e := mix.CheckFills(room(), append(diary(), test.x, api.MixFill{Kind: 7}))
		if test.e == api.OK {
			expect(t, "CheckFills", n, e, 3, api.ErrKind)
		} else {
			expect(t, "CheckFills", n, e, 2, test.e)
		}
	}
}

// P6.1: why a fill is not possible behind others, in the order of its errors. The bank has 8100000 at 162000, s12 1900000.
func TestPossibleFills(t *testing.T) {
	more := api.MixVessel{Name: "empty", Volume: 7, Most: 3}
	v := append(room(), more)
	for _, test := range []struct {
		x api.MixFill
		e api.Errno
	}{
		{move(0, "x", "y", 1), api.ErrMissing},
		{move(0, "bank", "y", 1), api.ErrMissing},
		{move(0, "x", "bank", 1), api.ErrMissing},
		{in(0, "Bank", air, 1), api.ErrMissing},
		{vent(0, "s1", 1), api.ErrMissing},
		{vent(0, "s12", 1900001), api.ErrOrder},
		{in(0, "s12", air, 1000000000), api.ErrOrder},
		{move(0, "s12", "bank", 1), api.ErrOrder},
		{vent(1, "s12", 1900001), api.ErrStock},
		{vent(1, "s12", 1900000), api.OK},
		{vent(1, "empty", 1), api.ErrStock},
		{pump(1, "empty", "bank", 1), api.ErrStock},
		{move(1, "s12", "bank", 15000000), api.ErrStock},
		{move(1, "bank", "s12", 8100001), api.ErrStock},
		{pump(1, "bank", "s12", 8100000), api.ErrFull},
		{move(1, "bank", "s12", 884001), api.ErrFull},
		{pump(1, "bank", "s12", 884001), api.ErrFull},
		{pump(1, "bank", "s12", 884000), api.OK},
		{move(1, "bank", "s12", 884000), api.ErrState},
		{in(1, "s12", helium, 884000), api.OK},
		{in(1, "s12", helium, 884001), api.ErrFull},
		{in(1, "bank", helium, 6900000), api.OK},
		{in(1, "bank", helium, 6900001), api.ErrFull},
		{in(1, "bank", helium, 1000000000), api.ErrFull},
		// The pressure of 1 in 7 millilitres is 142.9.
		{in(1, "empty", air, 1), api.ErrFull},
		{move(1, "bank", "empty", 1), api.ErrFull},
		// 8064516 and 1935484 would be even: (8100000 - n) / 50000 >= (1900000 + n) / 12000, n <= 35483.87.
		{move(1, "bank", "s12", 35483), api.OK},
		{move(1, "bank", "s12", 35484), api.ErrState},
		{pump(1, "bank", "s12", 35484), api.OK},
		{move(1, "s12", "bank", 1), api.ErrState},
		{pump(1, "s12", "bank", 1900000), api.OK},
		{move(2, "bank", "s12", 1), api.OK},
	} {
		l, e := mix.AddFill(v, diary(), test.x)
		if test.e == api.OK {
			expect(t, "AddFill", l, e, append(diary(), test.x), api.OK)
		} else {
			refuse(t, flat(test.x), l, e, test.e)
		}
		n, e := mix.CheckFills(v, append(diary(), test.x))
		wanted := 2
		if test.e == api.OK {
			wanted = 0
		}
		expect(t, "CheckFills of "+flat(test.x), n, e, wanted, test.e)
	}
}

// P6.1: pressures are compared exactly: what ends even needs no pump, and a vessel may be filled just to Most.
func TestEvenPressures(t *testing.T) {
	v := []api.MixVessel{{Name: "a", Volume: 300, Most: 100000}, {Name: "b", Volume: 700, Most: 143}, {Name: "c", Volume: 7, Most: 400000}, {Name: "d", Volume: 300, Most: 400000}}
	l := []api.MixFill{in(0, "a", air, 1000)}
	for _, test := range []struct {
		x api.MixFill
		e api.Errno
	}{
		{move(0, "a", "d", 500), api.OK},
		{move(0, "a", "d", 501), api.ErrState},
		{in(0, "b", air, 100), api.OK},
		{in(0, "b", air, 101), api.ErrFull},
		{move(0, "a", "b", 100), api.OK},
		{move(0, "a", "b", 101), api.ErrFull},
		// 1000 - n of a to 7, n to 7: 22.8 is the even amount, so 22 needs no pump, 23 does (3256.7 and 3285.7).
		{move(0, "a", "c", 22), api.OK},
		{move(0, "a", "c", 23), api.ErrState},
		{pump(0, "a", "c", 23), api.OK},
	} {
		n, e := mix.CheckFills(v, append(slices.Clone(l), test.x))
		wanted := 1
		if test.e == api.OK {
			wanted = 0
		}
		expect(t, flat(test.x), n, e, wanted, test.e)
	}
	// Of pressures that are the same when they are rounded, the first one is less: 333.3 and 333.6.
	v = []api.MixVessel{{Name: "a", Volume: 300, Most: 1000}, {Name: "b", Volume: 1000000, Most: 1000}}
	l = []api.MixFill{in(0, "a", air, 101), in(0, "b", air, 333599), move(0, "a", "b", 1)}
	n, e := mix.CheckFills(v, l)
	expect(t, "nearly even", n, e, 2, api.ErrState)
	l[1].Amount = 333332
	n, e = mix.CheckFills(v, l)
	expect(t, "even when rounded", n, e, 0, api.OK)
}

// P6.1: the greatest numbers of fills, and what comes ahead of what.
func TestManyFills(t *testing.T) {
	l := slices.Repeat([]api.MixFill{in(5, "bank", air, 1)}, 200)
	n, e := mix.CheckFills(room(), l)
	expect(t, "200 fills", n, e, 0, api.OK)
	added, e := mix.AddFill(room(), l, in(5, "bank", air, 1))
	refuse(t, "AddFill to 200 fills", added, e, api.ErrLarge)
	added, e = mix.AddFill(room(), l, api.MixFill{Kind: 9})
	refuse(t, "AddFill of a wrong one to 200 fills", added, e, api.ErrLarge)
	added, e = mix.AddFill(room(), l[1:], in(5, "bank", air, 1))
	expect(t, "AddFill to 199 fills", added, e, l, api.OK)
	n, e = mix.CheckFills(room(), append(l, in(5, "bank", air, 1)))
	expect(t, "201 fills", n, e, 0, api.ErrLarge)
	l[199].Day = 4
	n, e = mix.CheckFills(room(), l)
	expect(t, "the last one of 200 fills", n, e, 199, api.ErrOrder)
	added, e = mix.AddFill(room(), l, in(5, "bank", air, 1))
	refuse(t, "AddFill to wrong fills", added, e, api.ErrOrder)
	l[7].Kind = 9
	n, e = mix.CheckFills(room(), l)
	expect(t, "the first wrong fill", n, e, 7, api.ErrKind)
	n, e = mix.CheckFills(append(room(), room()...), append(l, l...))
	expect(t, "wrong vessels and too many fills", n, e, 0, api.ErrExists)
	n, e = mix.CheckFills(room(), append(l, l...))
	expect(t, "too many wrong fills", n, e, 0, api.ErrLarge)
	n, e = mix.CheckFills(nil, l[:1])
	expect(t, "without vessels", n, e, 0, api.ErrMissing)
	n, e = mix.CheckFills(nil, nil)
	expect(t, "nothing", n, e, 0, api.OK)
}

// P6.2: the examples.
func TestWhatThereIs(t *testing.T) {
	v, l := room(), diary()
	c, e := mix.Contents(v, l[:1])
	expect(t, "Contents", c, e, []api.MixContent{content(2100000, 0, 7900000), {}}, api.OK)
	c, e = mix.Contents(v, l)
	expect(t, "Contents", c, e, []api.MixContent{content(1701000, 0, 6399000), content(399000, 0, 1501000)}, api.OK)
	c, e = mix.Contents(v, nil)
	expect(t, "Contents", c, e, make([]api.MixContent, 2), api.OK)
	s, e := mix.Sums(v, append(l, vent(1, "s12", 1900000), vent(1, "bank", 1)))
	expect(t, "Sums", s, e, api.MixSums{In: content(2100000, 0, 7900000), Vented: content(399000, 0, 1501001)}, api.OK)
	for _, test := range []struct {
		vessel  string
		l       []api.MixFill
		p       api.Range
		told    api.MixTold
		missing api.Errno
		empty   api.Errno
	}{
		{"bank", l, api.Range{Lo: 162000, Hi: 162000}, api.MixTold{Oxygen: api.Range{Lo: 210, Hi: 210}}, api.OK, api.OK},
		{"s12", l, api.Range{Lo: 158333, Hi: 158334}, api.MixTold{Oxygen: api.Range{Lo: 210, Hi: 210}}, api.OK, api.OK},
		{"s12", l[:1], api.Range{}, api.MixTold{}, api.OK, api.ErrZero},
		{"s12", append(l, vent(1, "s12", 1900000)), api.Range{}, api.MixTold{}, api.OK, api.ErrZero},
		{"s12", append(l, in(1, "s12", tx1845, 7)), api.Range{Lo: 158333, Hi: 158334}, api.MixTold{Oxygen: api.Range{Lo: 209, Hi: 210}, Helium: api.Range{Hi: 1}}, api.OK, api.OK},
		{"s1", l, api.Range{}, api.MixTold{}, api.ErrMissing, api.ErrMissing},
		{"", l, api.Range{}, api.MixTold{}, api.ErrMissing, api.ErrMissing},
	} {
		p, e := mix.PressureOf(v, test.l, test.vessel)
		expect(t, "PressureOf "+test.vessel, p, e, test.p, test.missing)
		told, e := mix.MixtureOf(v, test.l, test.vessel)
		expect(t, "MixtureOf "+test.vessel, told, e, test.told, test.empty)
	}
}

// model is vessels by their names, with what is in them, as the definitions tell it.
type model struct {
	v          []api.MixVessel
	there      map[string]api.MixContent
	in, vented api.MixContent
	day        int
}

func (m *model) pressure(vessel string) *big.Rat {
	for _, v := range m.v {
		if v.Name == vessel {
			return rat(1000*sumOf(m.there[vessel]), v.Volume)
		}
	}
	panic(vessel)
}

// add adds a fill that is right alone, and returns why it is not possible.
func (m *model) add(f api.MixFill) api.Errno {
	most := map[string]int{}
	for _, v := range m.v {
		most[v.Name] = v.Most
	}
	if f.Kind != api.MixIn && most[f.From] == 0 || f.Kind != api.MixVent && most[f.To] == 0 {
		return api.ErrMissing
	}
	if f.Day < m.day {
		return api.ErrOrder
	}
	var moved api.MixContent
	switch {
	case f.Kind == api.MixIn:
		moved.Oxygen = down(rat(f.Amount*f.Gas.Oxygen, 1000))
		moved.Helium = down(rat(f.Amount*f.Gas.Helium, 1000))
		moved.Nitrogen = f.Amount - moved.Oxygen - moved.Helium
		m.in = plus(m.in, moved)
	case f.Amount > sumOf(m.there[f.From]):
		return api.ErrStock
	default:
		moved = shareOf(m.there[f.From], f.Amount)
		m.there[f.From] = minus(m.there[f.From], moved)
	}
	if f.Kind == api.MixVent {
		m.vented = plus(m.vented, moved)
	} else {
		m.there[f.To] = plus(m.there[f.To], moved)
		if m.pressure(f.To).Cmp(rat(most[f.To], 1)) > 0 {
			return api.ErrFull
		}
	}
	if f.Kind == api.MixMove && !f.Pump && m.pressure(f.From).Cmp(m.pressure(f.To)) < 0 {
		return api.ErrState
	}
	m.day = f.Day
	return api.OK
}

func newModel(v []api.MixVessel, l []api.MixFill) *model {
	m := &model{v: v, there: map[string]api.MixContent{}}
	for _, f := range l {
		m.add(f)
	}
	return m
}

func (c chance) vessels() []api.MixVessel {
	var v []api.MixVessel
	for i := range c.from(1, 5) {
		v = append(v, api.MixVessel{Name: string(rune('a' + i)), Volume: c.from(1, 1<<c.from(0, 19)), Most: c.from(1, 1<<c.from(4, 18))})
	}
	return v
}

// fill returns a fill that is right alone and mostly possible: it moves up to what would fill a vessel.
func (c chance) fill(m *model) api.MixFill {
	name := func() string {
		if c.Intn(30) == 0 {
			return "z"
		}
		return m.v[c.Intn(len(m.v))].Name
	}
	from, to := name(), name()
	f := api.MixFill{Kind: c.Intn(3), Day: m.day + max(0, c.from(-9, 3)), Amount: 1}
	if c.Intn(30) == 0 {
		f.Day = max(0, m.day-1)
	}
	most := sumOf(m.there[from]) + c.Intn(2)
	if f.Kind != api.MixVent {
		f.To = to
	}
	if f.Kind == api.MixIn {
		f.Gas = c.gas()
		for _, v := range m.v {
			if v.Name == to {
				most = v.Most*v.Volume/1000 - sumOf(m.there[to]) + c.Intn(2)
			}
		}
	} else {
		f.From = from
	}
	if f.Kind == api.MixMove {
		f.Pump = c.Intn(2) == 0
		if from == to {
			f.To = "y"
		}
	}
	f.Amount = max(1, min(1000000000, c.some(max(0, most))))
	return f
}

// P6.1, P6.2, P6.8: fills by chance, held against the definitions; nothing gets lost, and each beginning is right.
func TestFillsByChance(t *testing.T) {
	counts := map[api.Errno]int{}
	for seed := range 300 {
		c := newChance(seed)
		v := c.vessels()
		var l []api.MixFill
		for range 60 {
			m := newModel(v, l)
			f := c.fill(m)
			wanted := newModel(v, l).add(f)
			added, e := mix.AddFill(v, l, f)
			counts[wanted]++
			if wanted != api.OK {
				refuse(t, flat(f), added, e, wanted)
				n, e := mix.CheckFills(v, append(slices.Clone(l), f, f))
				expect(t, flat(f), n, e, len(l), wanted)
				continue
			}
			expect(t, flat(f), added, e, append(slices.Clone(l), f), api.OK)
			l = added
		}
		for n := range len(l) + 1 {
			checkThere(t, v, l[:n])
		}
	}
	for _, e := range []api.Errno{api.OK, api.ErrMissing, api.ErrOrder, api.ErrStock, api.ErrFull, api.ErrState} {
		if counts[e] < 100 {
			t.Errorf("there were %d fills with the error %d", counts[e], e)
		}
	}
}

func checkThere(t *testing.T, v []api.MixVessel, l []api.MixFill) {
	t.Helper()
	m := newModel(v, l)
	contents, e := mix.Contents(v, l)
	var want []api.MixContent
	all := m.vented
	for i, x := range v {
		want = append(want, m.there[x.Name])
		all = plus(all, contents[i])
		p, e := mix.PressureOf(v, l, x.Name)
		expect(t, "PressureOf", p, e, rounded(m.pressure(x.Name)), api.OK)
		told, e := mix.MixtureOf(v, l, x.Name)
		if n := sumOf(m.there[x.Name]); n > 0 {
			expect(t, "MixtureOf", told, e, api.MixTold{Oxygen: rounded(rat(1000*m.there[x.Name].Oxygen, n)), Helium: rounded(rat(1000*m.there[x.Name].Helium, n))}, api.OK)
		} else {
			refuse(t, "MixtureOf", told, e, api.ErrZero)
		}
	}
	expect(t, "Contents", contents, e, want, api.OK)
	s, e := mix.Sums(v, l)
	expect(t, "Sums", s, e, api.MixSums{In: m.in, Vented: m.vented}, api.OK)
	expect(t, "all", all, api.OK, s.In, api.OK)
	n, e := mix.CheckFills(v, l)
	expect(t, "CheckFills", n, e, 0, api.OK)
}
