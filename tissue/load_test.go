package tissue_test

import (
	"testing"

	"shotline/api"
	"shotline/tissue"
)

// wrongLoads are loads with an error each.
func wrongLoads() map[api.TissueLoad]api.Errno {
	const most = 100000000
	return map[api.TissueLoad]api.Errno{
		load(-1, 0, 0, 0):                  api.ErrRange,
		load(0, -1, 0, 0):                  api.ErrRange,
		load(0, 0, -1, 0):                  api.ErrRange,
		load(0, 0, 0, -1):                  api.ErrRange,
		load(most+1, most, 0, 0):           api.ErrRange,
		load(0, most+1, 0, 0):              api.ErrRange,
		load(0, 0, most+1, 0):              api.ErrRange,
		load(0, 0, 0, most+1):              api.ErrRange,
		load(2, 1, 0, most+1):              api.ErrRange,
		load(1, 0, 0, 0):                   api.ErrOrder,
		load(0, 0, 1, 0):                   api.ErrOrder,
		load(0, most, most, most-1):        api.ErrOrder,
		load(most, most-1, most, most):     api.ErrOrder,
		load(most, 0, most, most):          api.ErrOrder,
		load(most, most, most, 0):          api.ErrOrder,
		load(most, most, most, most):       api.OK,
		load(0, most, 0, most):             api.OK,
		load(0, 0, 0, 0):                   api.OK,
		load(5, 5, most, most):             api.OK,
		load(most+1, most+1, most+1, most): api.ErrRange,
	}
}

// P3.3: right and wrong loads.
func TestCheckLoads(t *testing.T) {
	right := load(1, 2, 3, 4)
	for l, want := range wrongLoads() {
		if e := tissue.CheckLoads(first(), []api.TissueLoad{l}); e != want {
			t.Errorf("%v: error %d, want %d", l, e, want)
		}
		if e := tissue.CheckLoads(three(), []api.TissueLoad{right, right, l}); e != want {
			t.Errorf("%v as the last one: error %d, want %d", l, e, want)
		}
		if e := tissue.CheckLoads(three(), []api.TissueLoad{right, l}); e != api.ErrShape {
			t.Errorf("two loads: error %d", e)
		}
	}
	tests := []struct {
		table []api.Compartment
		loads []api.TissueLoad
		want  api.Errno
	}{
		{nil, nil, api.ErrShape},
		{wrongCompartments()[:1], nil, api.ErrRange},
		{first(), nil, api.ErrShape},
		{first(), []api.TissueLoad{right, right}, api.ErrShape},
		{three(), []api.TissueLoad{load(1, 0, 0, 0), load(-1, 0, 0, 0), right}, api.ErrOrder},
		{three(), []api.TissueLoad{load(-1, 0, 0, 0), load(1, 0, 0, 0), right}, api.ErrRange},
	}
	for _, test := range tests {
		if e := tissue.CheckLoads(test.table, test.loads); e != test.want {
			t.Errorf("%v, %v: error %d, want %d", test.table, test.loads, e, test.want)
		}
	}
}

// P3.3: loads that hold what is breathed.
func TestSaturated(t *testing.T) {
	tests := []struct {
		gas      api.Gas
		pressure int
		want     api.TissueLoad
	}{
		{air, 1000, load(740230, 740230, 0, 0)},
		{oxygen, 31100, load(0, 0, 0, 0)},
		{helium, 400, load(0, 0, 337000, 337000)},
		{tx1845, 1063, load(370000, 370000, 450000, 450000)},
		{api.Gas{}, 31100, load(31037000, 31037000, 0, 0)},
	}
	for _, test := range tests {
		l, e := tissue.Saturated(first(), test.gas, test.pressure)
		expect(t, flat(test), l, e, []api.TissueLoad{test.want}, api.OK)
		l, e = tissue.Saturated(three(), test.gas, test.pressure)
		expect(t, flat(test), l, e, []api.TissueLoad{test.want, test.want, test.want}, api.OK)
	}
	l, e := tissue.Saturated(nil, wideGas, 0)
	refuse(t, "no table", l, e, api.ErrShape)
	l, e = tissue.Saturated(wrongCompartments()[:1], fullGas, 0)
	refuse(t, "a wrong table", l, e, api.ErrRange)
	l, e = tissue.Saturated(first(), fullGas, 0)
	refuse(t, "a wrong gas", l, e, api.ErrSum)
	for _, pressure := range []int{399, 31101, -1} {
		l, e = tissue.Saturated(first(), air, pressure)
		refuse(t, "a wrong pressure", l, e, api.ErrRange)
	}
}

// P3.3: loads inside others.
func TestInside(t *testing.T) {
	outer := load(10, 20, 30, 40)
	inner := map[api.TissueLoad]bool{
		outer:                 true,
		load(15, 15, 35, 35):  true,
		load(10, 10, 40, 40):  true,
		load(9, 20, 30, 40):   false,
		load(10, 21, 30, 40):  false,
		load(10, 20, 29, 40):  false,
		load(10, 20, 30, 41):  false,
		load(5, 8, 30, 40):    false,
		load(50, 80, 30, 40):  false,
		load(10, 20, 50, 80):  false,
		load(0, 100, 0, 1000): false,
	}
	for l, want := range inner {
		is, e := tissue.Inside([]api.TissueLoad{l}, []api.TissueLoad{outer})
		expect(t, flat(l), is, e, want, api.OK)
		is, e = tissue.Inside([]api.TissueLoad{outer, l}, []api.TissueLoad{outer, outer})
		expect(t, flat(l), is, e, want, api.OK)
	}
	is, e := tissue.Inside(nil, []api.TissueLoad{})
	expect(t, "no loads", is, e, true, api.OK)
	for _, test := range [][2][]api.TissueLoad{{nil, nitrogen(0, 0)}, {nitrogen(-1, 0), nil}, {nitrogen(0, 0), {outer, outer}}} {
		is, e = tissue.Inside(test[0], test[1])
		refuse(t, "other lengths", is, e, api.ErrShape)
	}
	for l, want := range wrongLoads() {
		if want == api.OK {
			continue
		}
		is, e = tissue.Inside([]api.TissueLoad{load(0, 0, 0, 0), l}, []api.TissueLoad{outer, outer})
		refuse(t, flat(l), is, e, want)
		is, e = tissue.Inside([]api.TissueLoad{load(0, 0, 0, 0), outer}, []api.TissueLoad{outer, l})
		refuse(t, flat(l), is, e, want)
	}
	is, e = tissue.Inside([]api.TissueLoad{outer, load(1, 0, 0, 0)}, []api.TissueLoad{load(-1, 0, 0, 0), outer})
	refuse(t, "both wrong, and the first one behind", is, e, api.ErrOrder)
}
