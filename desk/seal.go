package desk

import (
	"strings"

	"shotline/api"
	"shotline/check"
)

const (
	// sealFactor is what a seal is multiplied with at each byte.
	sealFactor = 257

	// lineWords is how many words a line of a journal has, if its text is taken as one.
	lineWords = 4
)

// SealOf returns the seal of the last entry.
func SealOf(log []api.DeskEntry) (int, api.Errno) {
	if e := checkEntries(log); e != api.OK {
		return 0, e
	}
	seal := 0
	for _, x := range log {
		seal = sealBehind(seal, x)
	}
	return seal, api.OK
}

// Journal returns the journal of a log.
func Journal(log []api.DeskEntry) (string, api.Errno) {
	if e := checkEntries(log); e != api.OK {
		return "", e
	}
	journal, seal := "", 0
	for number, x := range log {
		seal = sealBehind(seal, x)
		journal += journalLine(number+1, seal, x) + "\n"
	}
	return journal, api.OK
}

// Recover returns the entries of the longest beginning of a text that is a journal, and the number of its bytes.
func Recover(text string) ([]api.DeskEntry, int) {
	var log []api.DeskEntry
	size, seal := 0, 0
	for len(log) < api.MaxDeskLog {
		line, _, isWhole := strings.Cut(text[size:], "\n")
		words := strings.SplitN(line, " ", lineWords)
		if !isWhole || len(words) < lineWords {
			break
		}
		x := api.DeskEntry{By: words[2], Text: words[3]}
		if checkEntry(x) != api.OK {
			break
		}
		seal = sealBehind(seal, x)
		if line != journalLine(len(log)+1, seal, x) {
			break
		}
		log = append(log, x)
		size += len(line) + 1
	}
	return log, size
}

// checkEntries returns the error of entries, of whatever desk they are.
func checkEntries(log []api.DeskEntry) api.Errno {
	if len(log) > api.MaxDeskLog {
		return api.ErrLarge
	}
	return check.Each(log, checkEntry)
}

func checkEntry(x api.DeskEntry) api.Errno {
	switch {
	case check.Name(x.By) != api.OK:
		return api.ErrName
	case len(x.Text) > api.MaxDeskText:
		return api.ErrLarge
	case strings.Contains(x.Text, "\n"):
		return api.ErrSyntax
	}
	return api.OK
}

// sealBehind returns the seal of an entry behind one with a seal.
func sealBehind(seal int, x api.DeskEntry) int {
	for _, c := range []byte(lineOf(x.By, x.Text)) {
		seal = (sealFactor*seal + int(c) + 1) % api.DeskPrime
	}
	return seal
}

// journalLine returns the line of an entry, without its end.
func journalLine(number, seal int, x api.DeskEntry) string {
	return lineOf(number, seal, x.By, x.Text)
}
