package check_test

import (
	"math"
	"testing"

	"shotline/api"
	"shotline/check"
)

// R9: ranges include their ends.
func TestRange(t *testing.T) {
	for n, want := range map[int]api.Errno{math.MinInt: api.ErrRange, 1: api.ErrRange, 2: api.OK, 3: api.OK, 5: api.OK, 6: api.ErrRange, math.MaxInt: api.ErrRange} {
		if e := check.Range(n, 2, 5); e != want {
			t.Errorf("Range(%d): error %d, want %d", n, e, want)
		}
		if is := check.Within(n, 2, 5); is != (want == api.OK) {
			t.Errorf("Within(%d): %v", n, is)
		}
	}
	if check.Within(0, 0, -1) {
		t.Error("a number is within an empty range")
	}
}

// R1: of several errors the first one is taken.
func TestFirst(t *testing.T) {
	tests := []struct {
		list []api.Errno
		want api.Errno
	}{
		{nil, api.OK},
		{[]api.Errno{api.OK, api.OK}, api.OK},
		{[]api.Errno{api.OK, api.ErrSum, api.ErrNil}, api.ErrSum},
		{[]api.Errno{api.ErrZero, api.ErrSum}, api.ErrZero},
	}
	for _, test := range tests {
		if e := check.First(test.list...); e != test.want {
			t.Errorf("First(%v): error %d, want %d", test.list, e, test.want)
		}
		same := func(e api.Errno) api.Errno { return e }
		if e := check.Each(test.list, same); e != test.want {
			t.Errorf("Each(%v): error %d, want %d", test.list, e, test.want)
		}
	}
}

// R1: the first element with an error decides; its number is told, and 0 where there is none.
func TestNumbered(t *testing.T) {
	tests := []struct {
		list   []api.Errno
		number int
		want   api.Errno
	}{
		{nil, 0, api.OK},
		{[]api.Errno{api.OK, api.OK}, 0, api.OK},
		{[]api.Errno{api.OK, api.OK, api.ErrSum, api.ErrNil}, 2, api.ErrSum},
		{[]api.Errno{api.ErrZero, api.ErrSum}, 0, api.ErrZero},
	}
	for _, test := range tests {
		n, e := check.Numbered(test.list, func(number int, e api.Errno) api.Errno {
			if e != test.list[number] {
				t.Errorf("Numbered(%v): the element %d is %d", test.list, number, e)
			}
			return e
		})
		if n != test.number || e != test.want {
			t.Errorf("Numbered(%v): %d, error %d, want %d, error %d", test.list, n, e, test.number, test.want)
		}
	}
}
