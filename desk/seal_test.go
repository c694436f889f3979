package desk_test

import (
	"fmt"
	"strings"
	"testing"

	"shotline/api"
	"shotline/desk"
)

// P10.6: the seal and the journal of the examples.
func TestExampleSeals(t *testing.T) {
	log := []api.DeskEntry{{By: "a", Text: "b"}}
	n, e := desk.SealOf(log)
	expect(t, "SealOf", n, e, 6481382, api.OK)
	s, e := desk.Journal(log)
	expect(t, "Journal", s, e, "1 6481382 a b\n", api.OK)
	// 257 times 6481382, and so on, modulo the prime.
	log = append(log, api.DeskEntry{By: "c"})
	n, e = desk.SealOf(log)
	seal := (257*((257*6481382+99+1)%999999937) + 32 + 1) % 999999937
	expect(t, "SealOf", n, e, seal, api.OK)
	s, e = desk.Journal(log)
	expect(t, "Journal", s, e, fmt.Sprintf("1 6481382 a b\n2 %d c \n", seal), api.OK)
	n, e = desk.SealOf(nil)
	expect(t, "SealOf of no entries", n, e, 0, api.OK)
	s, e = desk.Journal(nil)
	expect(t, "Journal of no entries", s, e, "", api.OK)
}

// P10.6: entries of any people and texts have a seal, if they may stand in a line.
func TestErrorsOfSeals(t *testing.T) {
	for _, x := range []struct {
		log []api.DeskEntry
		e   api.Errno
	}{
		{nil, api.OK},
		{diary(), api.OK},
		{[]api.DeskEntry{{By: "zed", Text: ""}}, api.OK},
		{[]api.DeskEntry{{By: "abcdefghijkl", Text: wide("", 400)}}, api.OK},
		{[]api.DeskEntry{{By: "zed", Text: " \t\r\x00\xff  nothing "}}, api.OK},
		{full(60), api.OK},
		{full(61), api.ErrLarge},
		{append(full(60), api.DeskEntry{}), api.ErrLarge},
		{[]api.DeskEntry{{}}, api.ErrName},
		{[]api.DeskEntry{{By: "1", Text: wide("\n", 401)}}, api.ErrName},
		{[]api.DeskEntry{{By: "a b", Text: "x"}}, api.ErrName},
		{[]api.DeskEntry{{By: "abcdefghijklm", Text: "x"}}, api.ErrName},
		{[]api.DeskEntry{{By: "a", Text: wide("\n", 401)}}, api.ErrLarge},
		{[]api.DeskEntry{{By: "a", Text: wide("", 401)}}, api.ErrLarge},
		{[]api.DeskEntry{{By: "a", Text: "b\n"}}, api.ErrSyntax},
		{[]api.DeskEntry{{By: "a", Text: "\nb"}}, api.ErrSyntax},
		{append(diary(), api.DeskEntry{By: "a", Text: "\n"}, api.DeskEntry{}), api.ErrSyntax},
		{append(diary(), api.DeskEntry{}, api.DeskEntry{By: "a", Text: "\n"}), api.ErrName},
		{append(diary(), api.DeskEntry{By: "a", Text: wide("", 401)}, api.DeskEntry{}), api.ErrLarge},
	} {
		n, e := desk.SealOf(x.log)
		s, f := desk.Journal(x.log)
		if x.e != api.OK {
			refuse(t, "SealOf", n, e, x.e)
			refuse(t, "Journal", s, f, x.e)
			continue
		}
		want := 0
		for _, seal := range seals(x.log) {
			want = seal
		}
		expect(t, "SealOf", n, e, want, api.OK)
		expect(t, "Journal", s, f, journalOf(x.log), api.OK)
		l, size := desk.Recover(s)
		expect(t, "Recover", l, e, x.log, api.OK)
		expect(t, "bytes", size, e, len(s), api.OK)
	}
}

// recovered checks what Recover finds in a text: so many of the entries.
func recovered(t *testing.T, text string, log []api.DeskEntry, count int) {
	t.Helper()
	l, n := desk.Recover(text)
	expect(t, fmt.Sprintf("Recover of %.200q", text), l, api.OK, log[:count], api.OK)
	expect(t, fmt.Sprintf("the bytes of %.200q", text), n, api.OK, len(journalOf(log[:count])), api.OK)
}

// P10.6, P10.11: of any beginning of a journal the lines that are whole are found.
func TestRecoverBeginnings(t *testing.T) {
	log := append(diary(), api.DeskEntry{By: "x", Text: ""}, api.DeskEntry{By: "y", Text: "a  b "})
	journal := journalOf(log)
	for size := range len(journal) + 1 {
		recovered(t, journal[:size], log, strings.Count(journal[:size], "\n"))
	}
	recovered(t, journal+"\n", log, len(log))
	recovered(t, journal+"nothing\n", log, len(log))
	recovered(t, "\n"+journal, log, 0)
	recovered(t, " "+journal, log, 0)
}

// P10.6: a journal is found up to the line in which something is other than it was.
func TestRecoverChanged(t *testing.T) {
	log := diary()[:4]
	journal := journalOf(log)
	for i := range len(journal) {
		line := strings.Count(journal[:i], "\n")
		for _, c := range []byte("0195azAZ- \n\t\x00\xff\r") {
			if c != journal[i] {
				recovered(t, journal[:i]+string([]byte{c})+journal[i+1:], log, line)
				recovered(t, journal[:i]+string([]byte{c})+journal[i:], log, line)
			}
		}
		recovered(t, journal[:i]+journal[i+1:], log, line)
	}
	lines := strings.SplitAfter(journal, "\n")
	recovered(t, lines[0]+lines[2]+lines[3], log, 1)
	recovered(t, lines[0]+lines[0]+lines[1], log, 1)
	recovered(t, lines[1]+lines[0], log, 0)
	recovered(t, lines[0]+lines[1]+lines[3]+lines[2], log, 2)
}

// sealed is the line of one entry with its seal, however it is written.
func sealed(form string, by, text string) string {
	return fmt.Sprintf(form, seals([]api.DeskEntry{{By: by, Text: text}})[0], by, text)
}

// P10.6: lines of other numbers, names and sizes are no lines of a journal, also with the right seal.
func TestRecoverForms(t *testing.T) {
	one := []api.DeskEntry{{By: "a", Text: "b"}}
	recovered(t, sealed("1 %d %s %s\n", "a", "b"), one, 1)
	for _, form := range []string{
		"2 %d %s %s\n", "0 %d %s %s\n", "01 %d %s %s\n", "+1 %d %s %s\n", "1. %d %s %s\n", " 1 %d %s %s\n", "%[1]d %[1]d %s %s\n",
		"1 0%d %s %s\n", "1 +%d %s %s\n", "1 -%d %s %s\n", "1 %d0 %s %s\n",
		"1  %d %s %s\n", "1 %d  %s %s\n", "1 %d %s  %s\n", "1\t%d %s %s\n", "1 %d\t%s %s\n", "1 %d %s\t%s\n",
		"1 %d %s%s\n", "1 %d\n", "1\n", "\n", "", "1 %d %s %s\r\n", "1 %d %s %s",
	} {
		recovered(t, sealed(form, "a", "b"), one, 0)
	}
	recovered(t, sealed("1 %d %s %s\n", "a", ""), []api.DeskEntry{{By: "a"}}, 1)
	recovered(t, sealed("1 %d %s%s\n", "a", ""), nil, 0)
	recovered(t, sealed("1 %d %s %s\n", "a", " b  "), []api.DeskEntry{{By: "a", Text: " b  "}}, 1)
	recovered(t, sealed("1 %d %s %s\n", "a", wide("", 400)), []api.DeskEntry{{By: "a", Text: wide("", 400)}}, 1)
	recovered(t, sealed("1 %d %s %s\n", "a", wide("", 401)), nil, 0)
	recovered(t, sealed("1 %d %s %s\n", "abcdefghijkl", "b"), []api.DeskEntry{{By: "abcdefghijkl", Text: "b"}}, 1)
	for _, by := range []string{"", "1", "-", "abcdefghijklm", "a_b", "\u00e4"} {
		recovered(t, sealed("1 %d %s %s\n", by, "b"), nil, 0)
	}
	// The prime with the seal is the same number modulo it, and is none.
	recovered(t, fmt.Sprintf("1 %d a b\n", 6481382+999999937), nil, 0)
}

// P10.6: of a longer journal 60 entries are found.
func TestRecoverMany(t *testing.T) {
	long := full(62)
	recovered(t, journalOf(long), long, 60)
	recovered(t, journalOf(long[:61]), long, 60)
	recovered(t, journalOf(long[:60]), long, 60)
	recovered(t, journalOf(long[:59]), long, 59)
	recovered(t, strings.Repeat("x", 1000000), nil, 0)
	recovered(t, strings.Repeat("\n", 1000000), nil, 0)
}

// P10.11: what is found of any beginning of a journal is a beginning of its log, of the whole one it is all.
func TestRecoverByModel(t *testing.T) {
	someLogs(40, func(c chance, m made) {
		s, e := desk.Journal(m.log)
		expect(t, "Journal", s, e, journalOf(m.log), api.OK)
		recovered(t, s, m.log, len(m.log))
		for range 40 {
			size := c.Intn(len(s) + 1)
			recovered(t, s[:size], m.log, strings.Count(s[:size], "\n"))
		}
	})
}
