package desk

import (
	"strings"

	"shotline/api"
)

// Report returns what each vessel holds, the dives with the numbers of their signatures, and the end of the log.
func Report(h api.DiveDesk, log []api.DeskEntry) (string, api.Errno) {
	k, _, e := keep(h, log)
	if e != api.OK {
		return "", e
	}
	return k.report() + "\n", api.OK
}

// Do returns the log behind a line of the console, and what is written.
func Do(h api.DiveDesk, log []api.DeskEntry, line string) ([]api.DeskEntry, string) {
	k, _, e := keep(h, log)
	if e != api.OK {
		return nil, errorLine(e)
	}
	if entry, ok := strings.CutPrefix(line, "do "); ok {
		return k.do(entry)
	}
	answer, e := k.answer(line)
	if e != api.OK {
		answer = errorLine(e)
	}
	return k.log, answer
}

// do returns the log behind an entry, and what is written.
func (k keeper) do(entry string) ([]api.DeskEntry, string) {
	by, text, ok := strings.Cut(entry, " ")
	if !ok {
		return k.log, errorLine(api.ErrSyntax)
	}
	after, e := k.accept(api.DeskEntry{By: by, Text: text})
	if e != api.OK {
		return k.log, errorLine(e)
	}
	return after.log, lineOf(len(after.log))
}

// answer returns what is written behind a line that changes nothing.
func (k keeper) answer(line string) (string, api.Errno) {
	if vessel, ok := strings.CutPrefix(line, "held "); ok {
		c, ok := k.held(vessel)
		if !ok {
			return "", api.ErrMissing
		}
		return lineOf(c.Oxygen, c.Helium, c.Nitrogen), api.OK
	}
	if dive, ok := strings.CutPrefix(line, "breathed "); ok {
		amounts, e := k.breathedOn(dive)
		return lineOf(amounts), e
	}
	switch line {
	case "report":
		return k.report(), api.OK
	case "seal":
		return lineOf(k.seal()), api.OK
	case "journal":
		journal, _ := Journal(k.log)
		return lineOf(len(journal)), api.OK
	}
	return "", api.ErrSyntax
}

// report returns the report without its last line feed.
func (k keeper) report() string {
	var text []string
	contents := k.contents()
	for number, v := range k.Vessels {
		c := contents[number]
		text = append(text, lineOf("vessel", v.Name, c.Oxygen, c.Helium, c.Nitrogen))
	}
	for _, d := range k.Dives {
		text = append(text, lineOf("dive", d.Name, d.Diver, d.Plan, d.Day, d.Second, k.signatures(d.Name)))
	}
	text = append(text, lineOf("log", len(k.log), k.seal()))
	return strings.Join(text, "\n")
}

// seal returns the seal of the last entry.
func (k keeper) seal() int {
	// Entries that are accepted have a seal.
	seal, _ := SealOf(k.log)
	return seal
}

func errorLine(e api.Errno) string {
	return lineOf("error", int(e))
}
