package site

import (
	"shotline/api"
	"shotline/lines"
)

const (
	// textDigits is the most digits of a number in a text.
	textDigits = 7

	// The first words of the lines of a table.
	tideWord = "tide"
	waveWord = "wave"
)

// Print returns the text of a table.
func Print(t api.TideTable) (string, api.Errno) {
	if e := CheckTide(t); e != api.OK {
		return "", e
	}
	text := lines.Written(tideWord, &t.Mean) + "\n"
	for _, w := range t.Waves {
		text += lines.Written(waveWord, placesOf(&w)...) + "\n"
	}
	return text, api.OK
}

// Parse returns the table with a text; beside ErrSyntax the number of the line that is wrong.
func Parse(s string) (api.TideTable, int, api.Errno) {
	if len(s) > api.MaxText {
		return api.TideTable{}, 0, api.ErrLarge
	}
	t, number := read(s)
	if number != 0 {
		return api.TideTable{}, number, api.ErrSyntax
	}
	if e := CheckTide(t); e != api.OK {
		return api.TideTable{}, 0, e
	}
	return t, 0, api.OK
}

// read returns what a text says, whether or not it is a right table, or else the number of the first line that is wrong.
func read(s string) (api.TideTable, int) {
	var t api.TideTable
	if s == "" {
		return t, 1
	}
	for number, words := range lines.Of(s) {
		if number == 1 {
			if !readWords(words, tideWord, &t.Mean) {
				return t, number
			}
			continue
		}
		var w api.TideWave
		if !readWords(words, waveWord, placesOf(&w)...) {
			return t, number
		}
		t.Waves = append(t.Waves, w)
	}
	return t, 0
}

// readWords puts what stands behind a first word into places, and tells whether the words are such a line.
func readWords(words []string, first string, places ...any) bool {
	return len(words) > 0 && words[0] == first && lines.Read(words[1:], textDigits, places...)
}

// placesOf returns where is kept what stands behind the first word of the line of a wave.
func placesOf(w *api.TideWave) []any {
	return []any{&w.Height, &w.Period, &w.Phase}
}
