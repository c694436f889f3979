package check_test

import (
	"strings"
	"testing"

	"shotline/api"
	"shotline/check"
)

// Terms: a name is 1 to 12 letters, digits and "-", a letter first.
func TestName(t *testing.T) {
	for _, name := range []string{"a", "z", "A", "Z", "a0", "a9", "b-", "s-12", "aZ-09", "a-----------", "ABCDEFGHIJKL", "abcdefghijkl"} {
		if e := check.Name(name); e != api.OK {
			t.Errorf("%q: error %d", name, e)
		}
	}
	for _, name := range []string{"", "0", "-", "0a", "-a", "abcdefghijklm", "a b", "a_", "a.", "a/", "a:", "a@", "a[", "a`", "a{", "\u00e4", "a\u00e4", "a\x00", "\xffa", "a\n", " a", strings.Repeat("a", 60000)} {
		if e := check.Name(name); e != api.ErrName {
			t.Errorf("%q: error %d", name, e)
		}
	}
}

// R1: the first element with an error decides; of its errors its name's comes first, then that of an earlier name.
func TestNamed(t *testing.T) {
	type thing struct {
		name string
		e    api.Errno
	}
	tests := []struct {
		list []thing
		want api.Errno
	}{
		{nil, api.OK},
		{[]thing{{"a", api.OK}, {"A", api.OK}, {"b", api.OK}}, api.OK},
		{[]thing{{"a", api.OK}, {"a", api.OK}}, api.ErrExists},
		{[]thing{{"a", api.OK}, {"b", api.OK}, {"a", api.ErrSum}}, api.ErrExists},
		{[]thing{{"a", api.OK}, {"b", api.ErrSum}, {"a", api.OK}}, api.ErrSum},
		{[]thing{{"", api.ErrSum}}, api.ErrName},
		{[]thing{{"a", api.ErrSum}, {"", api.OK}}, api.ErrSum},
		{[]thing{{"a", api.OK}, {"", api.OK}, {"a", api.OK}}, api.ErrName},
		{[]thing{{"a", api.OK}, {"a", api.OK}, {"", api.OK}}, api.ErrExists},
	}
	for _, test := range tests {
		e := check.Named(test.list, func(x thing) string { return x.name }, func(x thing) api.Errno { return x.e })
		if e != test.want {
			t.Errorf("%v: error %d, want %d", test.list, e, test.want)
		}
	}
}

// R1: a name's own error comes first, then that of an earlier one; names of other lists are none.
func TestNames(t *testing.T) {
	for range 2 {
		nameError := check.Names()
		for _, test := range []struct {
			name string
			want api.Errno
		}{{"a", api.OK}, {"b", api.OK}, {"", api.ErrName}, {"a", api.ErrExists}, {"A", api.OK}, {"b", api.ErrExists}, {"", api.ErrName}} {
			if e := nameError(test.name); e != test.want {
				t.Errorf("%q: error %d, want %d", test.name, e, test.want)
			}
		}
	}
}
